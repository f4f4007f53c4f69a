import PyProof.Rows.All
import Wide.All
import OpenK.AllK
import Wide.FinOn
import HandS.Base
import HandS.Call
import HandS.List
import HandS.Comp
import HandS.Ends
import HandS.Words
import HandS.Iter
import HandS.Dict
import HandS.IsInst
import HandS.Deep
import HandS.Walk
import HandS.Defaults
import HandS.DictComp
import HandS.Text
import HandS.StrMore
import HandS.Wide
import HandS.TupAny
import HandS.More
import HandS.Style
import HandS.Flow
import HandS.SortInts
import HandS.SortKw
import HandS.SetFor
import HandS.Sort
import KE.DataMinMax
import HandS.MapObj
import PyProof.CollectIter
import PyProof.DictWalks
import HandS.ListItems
import KE.KDictList
import HandS.WordsList
import HandS.Zip
import KE.GoesMore
import PyProof.StrOps2
import HandS.Records
import PyProof.Rows.Digits
import HandS.WordsDict
import KE.KDictZip
import KE.KItemsList
import HandS.TryOnly
import HandS.Conv
import OpenK.XHead
import PySem.Challenge.RW_missclock_k48_one_ask_put_in

set_option Elab.async false
set_option linter.all false
set_option maxRecDepth 100000
set_option maxHeartbeats 4000000
namespace MC
open PySem PySem.Spec L2
open PyProof.Rows hiding St

def keyD : Key → PyData
  | .inl i => .int i
  | .inr x => .str x
mutual
inductive DD (H : Hp) : V → PyData → Prop
  | non : DD H .non .none
  | bl (b : Bool) : DD H (.bl b) (.bool b)
  | int (i : Int) : DD H (.int i) (.int i)
  | str (x : Str) : DD H (.str x) (.str x)
  | lst {a : Addr} {xs : List V} {ds : List PyData} (h : H a = some (.lst xs)) (hs : DDs H xs ds) : DD H (.ref a) (.list ds)
  | tup {a : Addr} {xs : List V} {ds : List PyData} (h : H a = some (.tup xs)) (hs : DDs H xs ds) : DD H (.ref a) (.tuple ds)
  | dct0 {a : Addr} (h : H a = some (.dK [])) : DD H (.ref a) (.dict [])
inductive DDs (H : Hp) : List V → List PyData → Prop
  | nil : DDs H [] []
  | cons {v : V} {vs : List V} {d : PyData} {ds : List PyData} (h : DD H v d) (hs : DDs H vs ds) : DDs H (v :: vs) (d :: ds)
end

mutual
theorem DD.mono {H H' : Hp} (e : Same H H') : ∀ {d : PyData} {v : V}, DD H v d → DD H' v d
  | _, _, .non => .non
  | _, _, .bl b => .bl b
  | _, _, .int i => .int i
  | _, _, .str x => .str x
  | _, _, .lst h hs => .lst (e _ _ h) (DDs.mono e hs)
  | _, _, .tup h hs => .tup (e _ _ h) (DDs.mono e hs)
  | _, _, .dct0 h => .dct0 (e _ _ h)
theorem DDs.mono {H H' : Hp} (e : Same H H') : ∀ {ds : List PyData} {vs : List V}, DDs H vs ds → DDs H' vs ds
  | _, _, .nil => .nil
  | _, _, .cons h hs => .cons (DD.mono e h) (DDs.mono e hs)
end
theorem DDs.length {H : Hp} : ∀ {vs : List V} {ds : List PyData}, DDs H vs ds → vs.length = ds.length
  | _, _, .nil => rfl
  | _, _, .cons _ hs => congrArg (· + 1) hs.length
theorem DDs.get {H : Hp} : ∀ {vs : List V} {ds : List PyData}, DDs H vs ds → ∀ {i : Nat} {v : V}, vs[i]? = some v → ∃ d, ds[i]? = some d ∧ DD H v d
  | _, _, .nil, _, _, e => by simp at e
  | _, _, .cons h _, 0, _, e => by simp at e; subst e; exact ⟨_, rfl, h⟩
  | _, _, .cons _ hs, i + 1, v, e => by
    obtain ⟨d, e1, e2⟩ := hs.get (i := i) (v := v) (by simpa using e)
    exact ⟨d, by simpa using e1, e2⟩
theorem DDs.append {H : Hp} : ∀ {vs ws : List V} {ds es : List PyData}, DDs H vs ds → DDs H ws es → DDs H (vs ++ ws) (ds ++ es)
  | _, _, _, _, .nil, k => k
  | _, _, _, _, .cons h hs, k => .cons h (hs.append k)
theorem DDs.take {H : Hp} : ∀ {vs : List V} {ds : List PyData} (n : Nat), DDs H vs ds → DDs H (vs.take n) (ds.take n)
  | _, _, 0, _ => .nil
  | _, _, _ + 1, .nil => .nil
  | _, _, n + 1, .cons h hs => .cons h (DDs.take n hs)
theorem DDs.drop {H : Hp} : ∀ {vs : List V} {ds : List PyData} (n : Nat), DDs H vs ds → DDs H (vs.drop n) (ds.drop n)
  | _, _, 0, r => r
  | _, _, _ + 1, .nil => .nil
  | _, _, n + 1, .cons _ hs => DDs.drop n hs
theorem DDs.set {H : Hp} {v : V} {d : PyData} (r : DD H v d) : ∀ {vs : List V} {ds : List PyData} (i : Nat), DDs H vs ds → DDs H (vs.set i v) (ds.set i d)
  | _, _, _, .nil => .nil
  | _, _, 0, .cons _ hs => .cons r hs
  | _, _, i + 1, .cons h hs => .cons h (DDs.set r i hs)

section
variable {X : Cx} {pins : List (Addr × Obj)} {σ : St} {H : Hp} {s : Shared}
mutual
theorem DD.reads (I : Inv X pins σ H s) : ∀ (d : PyData) (v : V) (u : Value), DD H v d → RelV v u → ∃ as, Reads s.heap u d as ∧ ∀ b ∈ as, H b ≠ none
  | .none, _, _, h, r => by
    cases h; cases r
    exact ⟨_, .none, fun b hb => nomatch hb⟩
  | .bool b, _, _, h, r => by
    cases h; cases r
    exact ⟨_, .bool b, fun b hb => nomatch hb⟩
  | .int i, _, _, h, r => by
    cases h; obtain ⟨t, rfl⟩ := r
    exact ⟨_, .int i t, fun b hb => nomatch hb⟩
  | .str x, _, _, h, r => by
    cases h; obtain ⟨t, rfl⟩ := r
    exact ⟨_, .str x t, fun b hb => nomatch hb⟩
  | .list ds, _, _, h, r => by
    cases h with
    | lst ha hs =>
      cases r
      obtain ⟨_, its, n, rv, ho⟩ := (show ObjOk X.prog X.w H s.heap _ (.lst _) from I.hok _ _ ha)
      obtain ⟨as, hr, hb⟩ := DDs.reads I ds _ its hs rv
      refine ⟨_, .list ho rfl rfl (by simpa using hr), fun b hbm => ?_⟩
      rcases List.mem_cons.mp hbm with rfl | hbm
      · rw [ha]; exact fun z => nomatch z
      · exact hb b hbm
  | .tuple ds, _, _, h, r => by
    cases h with
    | tup ha hs =>
      cases r
      obtain ⟨_, its, rv, o, ho, hc, n, hd⟩ := (show ObjOk X.prog X.w H s.heap _ (.tup _) from I.hok _ _ ha)
      obtain ⟨as, hr, hb⟩ := DDs.reads I ds _ its hs rv
      exact ⟨_, .tuple ho hc hd (by simpa using hr), hb⟩
  | .dict es, _, _, h, r => by
    cases h with
    | dct0 ha =>
      cases r
      obtain ⟨_, _, vs, kv, o, es, ep, ho, hx, hd, _, hm, _⟩ := (show ObjOk X.prog X.w H s.heap _ (.dK _) from I.hok _ _ ha)
      cases kv
      have e0 : es.toList = [] := by
        generalize es.toList = l at hm
        cases hm
        rfl
      refine ⟨_, .dict (kvs := []) ho hx.1 hd (by rw [e0]; exact .nil) (by rw [e0]; exact .nil), fun b hb => ?_⟩
      rw [List.append_nil] at hb
      rw [List.mem_singleton.mp hb, ha]
      exact fun z => nomatch z
theorem DDs.reads (I : Inv X pins σ H s) : ∀ (ds : List PyData) (vs : List V) (us : List Value), DDs H vs ds → Vals vs us → ∃ as, ReadsAll s.heap us ds as ∧ ∀ b ∈ as, H b ≠ none
  | [], _, _, h, r => by
    cases h; cases r
    exact ⟨_, .nil, fun b hb => nomatch hb⟩
  | d :: ds, _, _, h, r => by
    cases h with
    | cons h1 h2 =>
      cases r with
      | cons r1 r2 =>
        obtain ⟨as, q1, b1⟩ := DD.reads I d _ _ h1 r1
        obtain ⟨bs, q2, b2⟩ := DDs.reads I ds _ _ h2 r2
        exact ⟨_, .cons q1 q2, fun b hb => (List.mem_append.mp hb).elim (b1 b) (b2 b)⟩
end
end

section
variable {X : Cx}
def NoSys (X : Cx) : Prop := ∃ o, X.K.lookup sysModules = some o
end
end MC

set_option Elab.async false
set_option linter.all false
set_option maxRecDepth 100000
set_option maxHeartbeats 4000000
namespace MC
open PySem PySem.Spec L2
open PyProof.Rows hiding St

structure FnA (Φ : Around → Prop) (P : Program) (w : World) (K : PySem.W.Frag) (mg : Str → Option Value) (base : Heap) (CX : CXT) (k : Nat) (f : Addr) (fd : FuncData) (ps : List Str) (sp : Sp) : Prop where
  len : ∀ vs H Q E, sp vs H Q E → vs.length = ps.length
  run : ∀ (A : Around) (outer : List Env) (s : Shared) (H : Hp) (args : Args) (us : List Value) (vs : List V) (Q : VK) (E : XK), Φ A → Room k A → Env0 P w K mg base A outer s H →
    BindsTo s fd args (ps.zip us) → Vals vs us → sp vs H Q E → codeAny (model P w) A (.call (.ref f) args) (CR CX outer P w H s Q E) s
def Clean (A : Around) : Prop := A.guards = some []
theorem Clean.deeper {A : Around} (h : Clean A) (e : Env) : Clean (A.deeper e) := h

section
variable {Φ : Around → Prop} {CX : CXT} {P : Program} {w : World} {K : PySem.W.Frag} {mg : Str → Option Value} {base : Heap} {k : Nat} {f : Addr}
theorem fn_ofA {name qual : Str} {params : Arguments} {body : List Stmt} {scope : Scope} {dV kV doc pm cdv ct oc : Value} {an od : Option Addr}
    {osl : Array (Option Value)} {N ps : List Str} {sp : Sp} (lk : K.lookup f = some ⟨oc, od, .func (PySem.W.fnOf name qual params body scope dV kV doc pm an cdv ct), osl⟩)
    (hcd : PySem.W.codeIn K cdv qual = true) (S : FnScope N ps scope) (len : ∀ vs H Q E, sp vs H Q E → vs.length = ps.length)
    (hbody : ∀ (A : Around) (outer : List Env) (s : Shared) (H : Hp) (vs : List V) (Q : VK) (E : XK), Φ A → Room k (A.deeper (envOfC qual scope s.heap.objs.size f cdv)) → sp vs H Q E →
      ∃ t, PSs (cxOf CX P w K mg base N qual scope f cdv A outer s H E) body t ∧ t { nx := fun _ H' => Q .non H', rt := Q } (start N vs) H) :
    FnA Φ P w K mg base CX (k + 1) f (PySem.W.fnOf name qual params body scope dV kV doc pm an cdv ct) ps sp := by
  refine ⟨len, fun A outer s H args us vs Q E hΦ hr e0 hb r hsp => ?_⟩
  have sub := fun b o e => (e0.bs b o e).1
  have inK : K.In s.heap := e0.mod.kin.keeps sub
  have bound : ∀ y ∈ ps.zip us, scope.names.lookup y.1 = some .local ∨ (scope.names.lookup y.1 = some .cell ∧ ((cellsFrom (s.heap.objs.size + 1) scope.names []).lookup y.1).isSome = true) := by
    rintro ⟨n, v⟩ hy
    have hp := S.par n (List.of_mem_zip hy).1
    exact hp.elim .inl fun q => .inr ⟨q, PySem.W.cellsFrom_some _ _ _ (.inl q)⟩
  refine codeAny_call_function hr.depth (inK _ _ lk) rfl S.co S.gen rfl (PySem.W.codeRec_of inK hcd) (hb _ _ _ _ (wpAny_newFunctionEnv_cells S.kind bound fun env he s1 x => ?_))
  cases he
  refine ⟨(e0.mod.nolimit.keeps sub).keeps x.toInCall.keep, codeAny_func ?_⟩
  obtain ⟨t, ht, hq⟩ := hbody A outer s H vs Q E hΦ (hr.deeper _) hsp
  have J := inv_start (CX := CX) (w := w) (qual := qual) (f := f) (cd := cdv) (E := E) S hr.hd e0 (len _ _ _ _ hsp) r x
  refine wpAny_mono (ht.run [] s1 _ H _ J hq) (fun fl s' hs => ?_) fun _ _ z => z
  match fl, hs with
  | .ret u, ⟨v, _, H', J', rv, q⟩ => exact ⟨v, H', J'.os, J'.bare, J'.base, J'.hok, rv, q⟩
  | .next, ⟨_, H', J', q⟩ => exact ⟨V.non, H', J'.os, J'.bare, J'.base, J'.hok, rfl, q⟩
  | .brk, ⟨_, _, _, q⟩ => exact q.elim
  | .cont, ⟨_, _, _, q⟩ => exact q.elim

theorem FunA.ok {x qual : Str} {st : Stmt} {fd : FuncData} {N ps : List Str} {sp : Sp} (F : Fun K x qual st f fd) (S : FnScope N ps (defScope st)) (len : ∀ vs H Q E, sp vs H Q E → vs.length = ps.length)
    (hbody : ∀ (cdv : Value) (A : Around) (outer : List Env) (s : Shared) (H : Hp) (vs : List V) (Q : VK) (E : XK), Φ A → Room k (A.deeper (envOfC qual (defScope st) s.heap.objs.size f cdv)) → sp vs H Q E →
      ∃ t, PSs (cxOf CX0 P w K mg base N qual (defScope st) f cdv A outer s H E).nox (defBody st) t ∧ t { nx := fun _ H' => Q .non H', rt := Q } (start N vs) H) : FnA Φ P w K mg base CX0 (k + 1) f fd ps sp := by
  obtain ⟨oc, od, kV, doc, pm, an, cdv, ct, osl, rfl, lk, hcd⟩ := F.ex
  exact fn_ofA lk hcd S len fun A outer s H vs Q E hΦ hr hsp => (hbody cdv A outer s H vs Q E hΦ hr hsp).imp fun t z => ⟨z.1.nox, z.2⟩
theorem FnA.of {fd : FuncData} {ps : List Str} {sp : Sp} (F : FnOk P w K mg base CX k f fd ps sp) : FnA Φ P w K mg base CX k f fd ps sp :=
  ⟨F.len, fun A outer s H args us vs Q E _ => F.run A outer s H args us vs Q E⟩
end

section
variable {Φ : Around → Prop} {X : Cx} {CX : CXT} {k : Nat} {f : Addr} {fd : FuncData} {ps : List Str} {sp : Sp} {dvs : List V} {ds : List Value} {E : XK} {x : Str} {p pos : Pos} {e : Expr} {es : List Expr} {t : TA}
theorem pe_callA (hΦ : Φ X.A) (F : FnA Φ X.prog X.w X.K X.mg X.base CX k f fd ps sp) (hr : Room k X.A) (hg : Gl X x) (hm : X.mg x = some (.ref f)) (hk : PySem.W.keepIn X.K (.ref f) = true) (hb : Binds X.K fd ps ds) (hd : Vals dvs ds) (hx : Passes CX X E)
    (ha : PA X (e :: es) t) (hdb : (x == ("__debug__" : Str)) = false := by decide) (he : starEach (e :: es) X.env = (false, eval e X.env) :: starEach es X.env := by rfl) (hpl : (backTo pos (starEach es X.env)).any (·.1) = false := by rfl) :
    PE X (.Call (.Name x p) (e :: es) [] pos) (tCall sp dvs E t) := by
  constructor
  intro pins s σ H Q I h
  refine wpAny_Call_Name_kw (ld_glob I hg hm ?_ hdb)
  refine PySem.W.callWith_K (h₀ := X.base) I.ok.mod.kin hk (thn (ha.run pos pins s σ H _ I h) fun us s1 ⟨vs, H1, I1, r, q⟩ => ⟨I1.kIn, ?_⟩) he hpl
  have r2 := r.append hd
  have hl : (us ++ ds).length = ps.length := r2.length.symm.trans (F.len _ _ _ _ q)
  refine wpAny_call (codeAny_mono (F.run X.A X.stack s1 H1 ⟨us, []⟩ _ _ Q E hΦ hr I1.env0 (hb s1 us I1.kIn hl) r2 q) fun z s' hq => ?_)
  match z, hq with
  | .error e', hq => exact hx pins σ H1 s1 e' s' I1 hq
  | .ok (.ret u), hq => exact I1.after hq
  | .ok .next, hq => exact hq.elim
  | .ok .brk, hq => exact hq.elim
  | .ok .cont, hq => exact hq.elim
end

theorem law_callA {P : Program} {w : World} {K : PySem.W.Frag} {mg mb : Str → Option Value} {k : Nat} {fa a : Addr} {fd : FuncData} {x : Str} {sp : Sp} {s₁ : Shared} {vs : List Value} {ns : List Int}
    (KX : K.In s₁.heap) (hns : s₁.heap.Ns mainGlobals mg) (hb : s₁.heap.Ns builtinsNs mb) (hbb : ∀ x : Str, x ≠ "__name__" → mb x = bootBuiltins x) (hlim : s₁.heap.NoLimit) (hg : s₁.gens = #[])
    (ha : s₁.heap.get? a = some { cls := .type "list", data := .seq vs.toArray }) (hi : IntsAre vs ns) (hl : ns.length ≤ sizeLine) (hr : Room k callerA)
    (F : ∀ base : Heap, K.In base → base.Ns mainGlobals mg → FnA Clean P w K mg base CX0 k fa fd [x] sp) (hbind : ∀ (s : Shared) (u : Value), BindsTo s fd ⟨[u], []⟩ [(x, u)])
    (hsp : ∀ H : Hp, Only H → SqL K H a (ns.map V.int) → sp [.ref a] H (fun v _ => v = .bl true) fun _ _ _ => False) :
    codeAny (model P w) callerA (.call (.ref fa) ⟨[.ref a], []⟩) (fun r s' => r = .ok (.ret (.bool true)) ∧ OldK s₁.heap s'.heap ∧ s'.os = s₁.os ∧ AllBare s'.gens) s₁ := by
  have rv := vals_ints hi
  have main : ∀ H : Hp, Only H → SqL K H a (ns.map V.int) → HOk P w H s₁.heap → (∀ b u, H b = some u → b = a ∧ K.lookup a = none) →
      codeAny (model P w) callerA (.call (.ref fa) ⟨[.ref a], []⟩) (fun r s' => r = .ok (.ret (.bool true)) ∧ OldK s₁.heap s'.heap ∧ s'.os = s₁.os ∧ AllBare s'.gens) s₁ := by
    intro H hO hS hok hA
    have none_of : ∀ {b : Addr}, (b = a → K.lookup a = none → False) → H b = none := fun {b} h => by
      match e : H b with
      | none => rfl
      | some u => exact (h (hA b u e).1 (hA b u e).2).elim
    have ns_of : ∀ {b : Addr} {m : Str → Option Value}, s₁.heap.Ns b m → (hidT s₁.heap H).Ns b m := fun {b m} ⟨o, es, ep, e, d, r⟩ =>
      ⟨o, es, ep, hidT_get e (none_of fun q _ => by subst q; rw [ha] at e; cases e; cases d), d, r⟩
    have kb : K.In (hidT s₁.heap H) := fun b o e => hidT_get (KX b o e) (none_of fun q z => by subst q; rw [z] at e; cases e)
    have M : Mod K mg (hidT s₁.heap H) := ⟨kb, ns_of hns, ⟨mb, ns_of hb, hbb⟩, hlim.imp fun mc z => ⟨ns_of z.1, z.2⟩⟩
    have e0 : Env0 P w K mg (hidT s₁.heap H) callerA [] s₁ H := ⟨rfl, M, fun b o e => of_hidT e, Nat.le_of_eq (hidT_size _ _), trivial, (fun b z => nomatch z), hok, .of_eq hg⟩
    refine codeAny_mono ((F _ kb (ns_of hns)).run callerA [] s₁ H ⟨[.ref a], []⟩ [.ref a] [.ref a] _ _ rfl hr e0 (hbind s₁ (.ref a)) (.cons rfl .nil) (hsp H hO hS)) fun r s' h => ?_
    match r, h with
    | .error e, h => exact h.elim
    | .ok .next, h => exact h.elim
    | .ok .brk, h => exact h.elim
    | .ok .cont, h => exact h.elim
    | .ok (.ret u), ⟨v, H', os, bare, un, hok', r', q⟩ =>
      cases (show v = .bl true from q)
      cases (show u = Value.bool true from r')
      refine ⟨rfl, OldK.of_keep fun b o e => ?_, os, bare⟩
      match z : H b with
      | none => exact un.keep b o e z (fun q => nomatch q) (fun q => nomatch q)
      | some y =>
        rcases hO b with z2 | ⟨ob, xs, z2⟩
        · rw [z] at z2; cases z2
        · have f1 := (hok b _ z2).1
          have f2 := (hok' b _ (un.frzs b ob _ z2)).1
          rw [e] at f1; cases f1
          exact f2
  match hk : K.lookup a with
  | some o =>
    have e := KX a o hk
    rw [ha] at e
    cases e
    exact main (fun _ => none) (fun _ => .inl rfl) (.inr ⟨_, vs.toArray, _, hk, rfl, rfl, rfl, by rw [List.size_toArray, hi.length]; exact hl, by simpa using rv⟩) (fun b u z => (nomatch z)) (fun b u z => (nomatch z))
  | none =>
    have at_a : upd (fun _ => none) a (.frz { cls := .type "list", data := .seq vs.toArray } (.lst (ns.map V.int))) a = some _ := upd_same
    refine main _ (fun b => ?_) (.inl (.inr ⟨_, at_a⟩)) (fun b u z => ?_) fun b u z => ⟨?_, hk⟩
    · by_cases q : b = a
      · subst q; exact .inr ⟨_, _, at_a⟩
      · exact .inl (upd_ne q)
    · by_cases q : b = a
      · subst q; rw [at_a] at z; cases z
        exact ⟨ha, by rw [List.length_map]; exact hl, vs, _, rv, ha⟩
      · rw [upd_ne q] at z; cases z
    · by_cases q : b = a
      · exact q
      · rw [upd_ne q] at z; cases z
theorem walk_ofA {l : PySem.W.OpenLaw} {n k : Nat} {q : Program} {loose : List Str} {XP : (Str → Option Value) → Heap → Prop} {YP : World → Heap → Prop} {d : DefRec} {K : Params → PySem.W.Frag} {sp : World → Sp} {x : Str}
    (hn : l.most = some n) (hn2 : n ≤ sizeLine) (hdf : d.params.defaults = []) (hr : Room k callerA) (hY : ∀ (w : World) (h : Heap), YP w h → (K w.params).In h)
    (F : ∀ (w : World) (mg : Str → Option Value) (fa : Addr) (h : Heap), (K w.params).In h → h.Ns mainGlobals mg → mg d.name = some (.ref fa) →
      ∃ fd : FuncData, (∀ (s : Shared) (u : Value), BindsTo s fd ⟨[u], []⟩ [(x, u)]) ∧ ∀ base : Heap, (K w.params).In base → base.Ns mainGlobals mg → FnA Clean l.prog w (K w.params) mg base CX0 k fa fd [x] (sp w))
    (hsp : ∀ (w : World) (H : Hp) (a : Addr) (ns : List Int), ns.length ≤ n → Only H → SqL (K w.params) H a (ns.map V.int) → sp w [.ref a] H (fun v _ => v = .bl true) fun _ _ _ => False) :
    PySem.W.WalkO q loose XP YP l.row.toRowW d [] (fun f vs => PySem.call f vs) :=
  Att.attach_call hn hdf fun w s₀ s₁ mg mb fa o pm cd doc a vs ns G Y ho hd hcd hmg hobj hints hlen hg => by
    obtain ⟨fd, hb, hF⟩ := F w mg fa _ (hY w _ Y) G.T.g hmg
    exact law_callA (hY w _ Y) G.T.g G.T.b G.T.builtins G.T.nolimit hg hobj hints (Nat.le_trans hlen hn2) hr hF hb fun H hO hS => hsp w H a ns hlen hO hS
end MC

set_option Elab.async false
set_option linter.all false
set_option maxRecDepth 100000
set_option maxHeartbeats 4000000
namespace VD
open PySem PySem.Spec L2 MC
open PyProof.Rows hiding St

inductive D where
  | non | bl (b : Bool) | int (i : Int) | str (x : Str)
  | lst (xs : List D) | tup (xs : List D) | dct (kvs : List (Key × D)) | ro (ns : List Int)

mutual
def D.sz : D → Nat
  | .lst xs => 1 + szs xs
  | .tup xs => 1 + szs xs
  | .dct kvs => 1 + szk kvs
  | _ => 1
def szs : List D → Nat
  | [] => 0
  | x :: xs => D.sz x + szs xs
def szk : List (Key × D) → Nat
  | [] => 0
  | (_, x) :: xs => D.sz x + szk xs
end

mutual
inductive DD (H : Hp) : V → D → Prop
  | non : DD H .non .non
  | bl (b : Bool) : DD H (.bl b) (.bl b)
  | int (i : Int) : DD H (.int i) (.int i)
  | str (x : Str) : DD H (.str x) (.str x)
  | lst {a : Addr} {xs : List V} {ds : List D} (h : H a = some (.lst xs)) (hs : DDs H xs ds) : DD H (.ref a) (.lst ds)
  | tup {a : Addr} {xs : List V} {ds : List D} (h : H a = some (.tup xs)) (hs : DDs H xs ds) : DD H (.ref a) (.tup ds)
  | dct {a : Addr} {kvs : List (Key × V)} {es : List (Key × D)} (h : Rd H a (.dK kvs)) (hs : DKs H kvs es) : DD H (.ref a) (.dct es)
inductive DDs (H : Hp) : List V → List D → Prop
  | nil : DDs H [] []
  | cons {v : V} {vs : List V} {d : D} {ds : List D} (h : DD H v d) (hs : DDs H vs ds) : DDs H (v :: vs) (d :: ds)
inductive DKs (H : Hp) : List (Key × V) → List (Key × D) → Prop
  | nil : DKs H [] []
  | cons {k : Key} {v : V} {vs : List (Key × V)} {d : D} {ds : List (Key × D)} (h : DD H v d) (hs : DKs H vs ds) : DKs H ((k, v) :: vs) ((k, d) :: ds)
end
def RV (K : PySem.W.Frag) (H : Hp) (v : V) (d : D) : Prop := (∃ a ns, d = .ro ns ∧ v = .ref a ∧ SqL K H a (ns.map V.int)) ∨ DD H v d

noncomputable def Res (T : Addr → Prop) (H : Hp) : Hp := fun b => open Classical in if T b then H b else none
theorem res_in {T : Addr → Prop} {H : Hp} {b : Addr} (h : T b) : Res T H b = H b := by unfold Res; rw [if_pos h]
theorem res_some {T : Addr → Prop} {H : Hp} {b : Addr} {o : HO} (h : Res T H b = some o) : T b ∧ H b = some o := by
  unfold Res at h
  split at h
  · exact ⟨by assumption, h⟩
  · cases h
theorem res_mono {T T' : Addr → Prop} {H H' : Hp} (h : ∀ b o, T b → H b = some o → T' b ∧ H' b = some o) : Same (Res T H) (Res T' H') := fun b o e => by
  obtain ⟨t, e⟩ := res_some e
  obtain ⟨t', e'⟩ := h b o t e
  rw [res_in t']; exact e'
theorem res_same {T : Addr → Prop} {H : Hp} : Same (Res T H) H := fun b o e => (res_some e).2
theorem res_up {T T' : Addr → Prop} {H : Hp} (h : ∀ b, T b → T' b) : Same (Res T H) (Res T' H) := res_mono fun b o t e => ⟨h b t, e⟩
theorem rd_mono {H H' : Hp} {a : Addr} {u : HO} (e : Same H H') (h : Rd H a u) : Rd H' a u := h.imp (e _ _) fun ⟨o, q⟩ => ⟨o, e _ _ q⟩
theorem rd_res {T : Addr → Prop} {H : Hp} {a : Addr} {u : HO} (h : Rd (Res T H) a u) : T a ∧ Rd H a u := by
  rcases h with h | ⟨o, h⟩
  · exact ⟨(res_some h).1, .inl (res_some h).2⟩
  · exact ⟨(res_some h).1, .inr ⟨o, (res_some h).2⟩⟩

section
variable {H H' : Hp}
mutual
theorem DD.mono (e : Same H H') : ∀ {v : V} {d : D}, DD H v d → DD H' v d
  | _, _, .non => .non
  | _, _, .bl b => .bl b
  | _, _, .int i => .int i
  | _, _, .str x => .str x
  | _, _, .lst h hs => .lst (e _ _ h) (DDs.mono e hs)
  | _, _, .tup h hs => .tup (e _ _ h) (DDs.mono e hs)
  | _, _, .dct h hs => .dct (rd_mono e h) (DKs.mono e hs)
theorem DDs.mono (e : Same H H') : ∀ {vs : List V} {ds : List D}, DDs H vs ds → DDs H' vs ds
  | _, _, .nil => .nil
  | _, _, .cons h hs => .cons (DD.mono e h) (DDs.mono e hs)
theorem DKs.mono (e : Same H H') : ∀ {vs : List (Key × V)} {ds : List (Key × D)}, DKs H vs ds → DKs H' vs ds
  | _, _, .nil => .nil
  | _, _, .cons h hs => .cons (DD.mono e h) (DKs.mono e hs)
end
theorem RV.mono {K : PySem.W.Frag} (e : Same H H') {v : V} {d : D} (h : RV K H v d) : RV K H' v d := by
  rcases h with ⟨a, ns, h1, h2, h3⟩ | h
  · exact .inl ⟨a, ns, h1, h2, e.seq h3⟩
  · exact .inr (h.mono e)
theorem DDs.length : ∀ {vs : List V} {ds : List D}, DDs H vs ds → vs.length = ds.length
  | _, _, .nil => rfl
  | _, _, .cons _ hs => congrArg (· + 1) hs.length
theorem DKs.length : ∀ {vs : List (Key × V)} {ds : List (Key × D)}, DKs H vs ds → vs.length = ds.length
  | _, _, .nil => rfl
  | _, _, .cons _ hs => congrArg (· + 1) hs.length
theorem DDs.get : ∀ {vs : List V} {ds : List D}, DDs H vs ds → ∀ {i : Nat} {d : D}, ds[i]? = some d → ∃ v, vs[i]? = some v ∧ DD H v d
  | _, _, .nil, _, _, e => by simp at e
  | _, _, .cons h _, 0, _, e => by simp at e; subst e; exact ⟨_, rfl, h⟩
  | _, _, .cons _ hs, i + 1, v, e => by
    obtain ⟨d, e1, e2⟩ := hs.get (i := i) (d := v) (by simpa using e)
    exact ⟨d, by simpa using e1, e2⟩
theorem DDs.getV : ∀ {vs : List V} {ds : List D}, DDs H vs ds → ∀ {i : Nat} {v : V}, vs[i]? = some v → ∃ d, ds[i]? = some d ∧ DD H v d
  | _, _, .nil, _, _, e => by simp at e
  | _, _, .cons h _, 0, _, e => by simp at e; subst e; exact ⟨_, rfl, h⟩
  | _, _, .cons _ hs, i + 1, v, e => by
    obtain ⟨d, e1, e2⟩ := hs.getV (i := i) (v := v) (by simpa using e)
    exact ⟨d, by simpa using e1, e2⟩
theorem DDs.append : ∀ {vs ws : List V} {ds es : List D}, DDs H vs ds → DDs H ws es → DDs H (vs ++ ws) (ds ++ es)
  | _, _, _, _, .nil, k => k
  | _, _, _, _, .cons h hs, k => .cons h (hs.append k)
theorem DDs.take : ∀ {vs : List V} {ds : List D} (n : Nat), DDs H vs ds → DDs H (vs.take n) (ds.take n)
  | _, _, 0, _ => .nil
  | _, _, _ + 1, .nil => .nil
  | _, _, n + 1, .cons h hs => .cons h (DDs.take n hs)
theorem DDs.drop : ∀ {vs : List V} {ds : List D} (n : Nat), DDs H vs ds → DDs H (vs.drop n) (ds.drop n)
  | _, _, 0, r => r
  | _, _, _ + 1, .nil => .nil
  | _, _, n + 1, .cons _ hs => DDs.drop n hs
theorem DDs.set {v : V} {d : D} (r : DD H v d) : ∀ {vs : List V} {ds : List D} (i : Nat), DDs H vs ds → DDs H (vs.set i v) (ds.set i d)
  | _, _, _, .nil => .nil
  | _, _, 0, .cons _ hs => .cons r hs
  | _, _, i + 1, .cons h hs => .cons h (DDs.set r i hs)
theorem DDs.erase : ∀ {vs : List V} {ds : List D} (i : Nat), DDs H vs ds → DDs H (vs.eraseIdx i) (ds.eraseIdx i)
  | _, _, _, .nil => .nil
  | _, _, 0, .cons _ hs => hs
  | _, _, i + 1, .cons h hs => .cons h (DDs.erase i hs)
theorem DDs.reverse {vs : List V} {ds : List D} (h : DDs H vs ds) : DDs H vs.reverse ds.reverse := by
  induction vs generalizing ds with
  | nil => cases h; exact .nil
  | cons v vs ih =>
    cases h with
    | cons h hs =>
      rw [List.reverse_cons, List.reverse_cons]
      exact (ih hs).append (.cons h .nil)
theorem rd_det {a : Addr} {u u' : HO} (h : Rd H a u) (h' : Rd H a u') (n : ∀ o w, u ≠ .frz o w) (n' : ∀ o w, u' ≠ .frz o w) : u = u' := by
  rcases h with h | ⟨o, h⟩
  · rcases h' with h' | ⟨o', h'⟩
    · rw [h] at h'; exact Option.some.inj h'
    · rw [h] at h'; exact absurd (Option.some.inj h') (n _ _)
  · rcases h' with h' | ⟨o', h'⟩
    · rw [h] at h'; exact absurd (Option.some.inj h').symm (n' _ _)
    · rw [h] at h'; cases h'; rfl
mutual
theorem DD.size : ∀ {d d' : D} {v : V}, DD H v d → DD H v d' → d.sz = d'.sz
  | .non, d', _, h, h' => by cases h; cases h'; rfl
  | .bl _, d', _, h, h' => by cases h; cases h'; rfl
  | .int _, d', _, h, h' => by cases h; cases h'; rfl
  | .str _, d', _, h, h' => by cases h; cases h'; rfl
  | .lst ds, d', _, h, h' => by
    cases h with
    | lst h hs =>
      cases h' with
      | lst h' hs' =>
        have e := rd_det (.inl h) (.inl h') (fun _ _ z => nomatch z) (fun _ _ z => nomatch z)
        cases e
        simp only [D.sz]; rw [DDs.size hs hs']
      | tup h' hs' => have e := rd_det (.inl h) (.inl h') (fun _ _ z => nomatch z) (fun _ _ z => nomatch z); cases e
      | dct h' hs' => have e := rd_det (.inl h) h' (fun _ _ z => nomatch z) (fun _ _ z => nomatch z); cases e
  | .tup ds, d', _, h, h' => by
    cases h with
    | tup h hs =>
      cases h' with
      | lst h' hs' => have e := rd_det (.inl h) (.inl h') (fun _ _ z => nomatch z) (fun _ _ z => nomatch z); cases e
      | tup h' hs' =>
        rw [h] at h'; cases h'
        simp only [D.sz]; rw [DDs.size hs hs']
      | dct h' hs' => have e := rd_det (.inl h) h' (fun _ _ z => nomatch z) (fun _ _ z => nomatch z); cases e
  | .dct es, d', _, h, h' => by
    cases h with
    | dct h hs =>
      cases h' with
      | lst h' hs' => have e := rd_det h (.inl h') (fun _ _ z => nomatch z) (fun _ _ z => nomatch z); cases e
      | tup h' hs' => have e := rd_det h (.inl h') (fun _ _ z => nomatch z) (fun _ _ z => nomatch z); cases e
      | dct h' hs' =>
        have e := rd_det h h' (fun _ _ z => nomatch z) (fun _ _ z => nomatch z)
        cases e
        simp only [D.sz]; rw [DKs.size hs hs']
  | .ro _, _, _, h, _ => by cases h
theorem DDs.size : ∀ {ds ds' : List D} {vs : List V}, DDs H vs ds → DDs H vs ds' → szs ds = szs ds'
  | [], _, _, h, h' => by cases h; cases h'; rfl
  | d :: ds, _, _, h, h' => by
    cases h with
    | cons h hs =>
      cases h' with
      | cons h' hs' => simp only [szs]; rw [DD.size h h', DDs.size hs hs']
theorem DKs.size : ∀ {ds ds' : List (Key × D)} {vs : List (Key × V)}, DKs H vs ds → DKs H vs ds' → szk ds = szk ds'
  | [], _, _, h, h' => by cases h; cases h'; rfl
  | (k, d) :: ds, _, _, h, h' => by
    cases h with
    | cons h hs =>
      cases h' with
      | cons h' hs' => simp only [szk]; rw [DD.size h h', DKs.size hs hs']
end
theorem rd_out {a b : Addr} {u : HO} {T : Addr → Prop} (h : Rd (Res T H) b u) (hb : b ≠ a) : Rd (Res (fun c => T c ∧ c ≠ a) H) b u := by
  rcases h with h | ⟨o, h⟩
  · obtain ⟨t, e⟩ := res_some h
    exact .inl (by rw [res_in (show T b ∧ b ≠ a from ⟨t, hb⟩)]; exact e)
  · obtain ⟨t, e⟩ := res_some h
    exact .inr ⟨o, by rw [res_in (show T b ∧ b ≠ a from ⟨t, hb⟩)]; exact e⟩
mutual
theorem DD.without {T : Addr → Prop} {a : Addr} {n : Nat} (ha : ∀ d', DD (Res T H) (.ref a) d' → n ≤ d'.sz) : ∀ {d : D} {v : V}, DD (Res T H) v d → d.sz < n → DD (Res (fun c => T c ∧ c ≠ a) H) v d
  | .non, _, h, _ => by cases h; exact .non
  | .bl _, _, h, _ => by cases h; exact .bl _
  | .int _, _, h, _ => by cases h; exact .int _
  | .str _, _, h, _ => by cases h; exact .str _
  | .lst ds, _, h, l => by
    cases h with
    | @lst b xs ds h hs =>
      have hb : b ≠ a := fun e => by subst e; exact absurd (ha _ (.lst h hs)) (by omega)
      simp only [D.sz] at l
      refine .lst ?_ (DDs.without ha hs (by omega))
      obtain ⟨t, e⟩ := res_some h
      rw [res_in (show T b ∧ b ≠ a from ⟨t, hb⟩)]; exact e
  | .tup ds, _, h, l => by
    cases h with
    | @tup b xs ds h hs =>
      have hb : b ≠ a := fun e => by subst e; exact absurd (ha _ (.tup h hs)) (by omega)
      simp only [D.sz] at l
      refine .tup ?_ (DDs.without ha hs (by omega))
      obtain ⟨t, e⟩ := res_some h
      rw [res_in (show T b ∧ b ≠ a from ⟨t, hb⟩)]; exact e
  | .dct es, _, h, l => by
    cases h with
    | @dct b xs ds h hs =>
      have hb : b ≠ a := fun e => by subst e; exact absurd (ha _ (.dct h hs)) (by omega)
      simp only [D.sz] at l
      exact .dct (rd_out h hb) (DKs.without ha hs (by omega))
  | .ro _, _, h, _ => by cases h
theorem DDs.without {T : Addr → Prop} {a : Addr} {n : Nat} (ha : ∀ d', DD (Res T H) (.ref a) d' → n ≤ d'.sz) : ∀ {ds : List D} {vs : List V}, DDs (Res T H) vs ds → szs ds < n → DDs (Res (fun c => T c ∧ c ≠ a) H) vs ds
  | [], _, h, _ => by cases h; exact .nil
  | d :: ds, _, h, l => by
    cases h with
    | cons h hs =>
      simp only [szs] at l
      exact .cons (DD.without ha h (by omega)) (DDs.without ha hs (by omega))
theorem DKs.without {T : Addr → Prop} {a : Addr} {n : Nat} (ha : ∀ d', DD (Res T H) (.ref a) d' → n ≤ d'.sz) : ∀ {ds : List (Key × D)} {vs : List (Key × V)}, DKs (Res T H) vs ds → szk ds < n → DKs (Res (fun c => T c ∧ c ≠ a) H) vs ds
  | [], _, h, _ => by cases h; exact .nil
  | (k, d) :: ds, _, h, l => by
    cases h with
    | cons h hs =>
      simp only [szk] at l
      exact .cons (DD.without ha h (by omega)) (DKs.without ha hs (by omega))
end
theorem DD.items {T : Addr → Prop} {a : Addr} {xs : List V} {ds : List D} (h : Res T H a = some (.lst xs)) (hs : DDs (Res T H) xs ds) : DDs (Res (fun c => T c ∧ c ≠ a) H) xs ds :=
  DDs.without (n := 1 + szs ds) (fun d' h' => by have := DD.size (DD.lst h hs) h'; simp only [D.sz] at this; omega) hs (by omega)
theorem DD.entries {T : Addr → Prop} {a : Addr} {xs : List (Key × V)} {ds : List (Key × D)} (h : Rd (Res T H) a (.dK xs)) (hs : DKs (Res T H) xs ds) : DKs (Res (fun c => T c ∧ c ≠ a) H) xs ds :=
  DKs.without (n := 1 + szk ds) (fun d' h' => by have := DD.size (DD.dct h hs) h'; simp only [D.sz] at this; omega) hs (by omega)

mutual
def D.flat : D → Bool
  | .lst _ => false
  | .dct _ => false
  | .ro _ => false
  | .tup xs => flats xs
  | _ => true
def flats : List D → Bool
  | [] => true
  | x :: xs => D.flat x && flats xs
end
def Imm (H : Hp) (b : Addr) : Prop := ∃ xs, H b = some (.tup xs)
mutual
theorem DD.imm : ∀ {d : D} {v : V}, DD H v d → d.flat = true → DD (Res (Imm H) H) v d
  | .non, _, h, _ => by cases h; exact .non
  | .bl _, _, h, _ => by cases h; exact .bl _
  | .int _, _, h, _ => by cases h; exact .int _
  | .str _, _, h, _ => by cases h; exact .str _
  | .lst _, _, _, f => by simp [D.flat] at f
  | .dct _, _, _, f => by simp [D.flat] at f
  | .ro _, _, _, f => by simp [D.flat] at f
  | .tup ds, _, h, f => by
    cases h with
    | @tup b xs ds h hs =>
      simp only [D.flat] at f
      exact .tup (by rw [res_in (show Imm H b from ⟨xs, h⟩)]; exact h) (DDs.imm hs f)
theorem DDs.imm : ∀ {ds : List D} {vs : List V}, DDs H vs ds → flats ds = true → DDs (Res (Imm H) H) vs ds
  | [], _, h, _ => by cases h; exact .nil
  | d :: ds, _, h, f => by
    cases h with
    | cons h hs =>
      simp only [flats, Bool.and_eq_true] at f
      exact .cons (DD.imm h f.1) (DDs.imm hs f.2)
end
end
end VD

set_option Elab.async false
set_option linter.all false
set_option maxRecDepth 100000
set_option maxHeartbeats 4000000
namespace VD
open PySem PySem.Spec L2 MC
open PyProof.Rows hiding St

abbrev Ev := List (Option D)
abbrev FPs := Nat → Addr → Prop
def NFrz (H : Hp) (b : Addr) : Prop := ∀ o u, H b ≠ some (.frz o u)
theorem Imm.nfrz {H : Hp} {b : Addr} (h : Imm H b) : NFrz H b := fun o u e => by obtain ⟨xs, h⟩ := h; rw [h] at e; cases e
theorem Imm.keep {H H' : Hp} {b : Addr} (h : Imm H b) (k : ∀ o, H b = some o → H' b = some o) : Imm H' b := h.imp fun xs e => k _ e
inductive RVs (K : PySem.W.Frag) (H : Hp) : List V → List D → Prop
  | nil : RVs K H [] []
  | cons {v vs d ds} (h : RV K H v d) (hs : RVs K H vs ds) : RVs K H (v :: vs) (d :: ds)
theorem RVs.mono {K : PySem.W.Frag} {H H' : Hp} (e : Same H H') {vs : List V} {ds : List D} (h : RVs K H vs ds) : RVs K H' vs ds := by
  induction h with
  | nil => exact .nil
  | cons h _ ih => exact .cons (h.mono e) ih
structure Fx where
  nl : Nat
  np : Nat
  H0 : Hp
  vs0 : List V
  S0 : FPs
  mu : List Nat
  s0 : ∀ p b, S0 p b → H0 b ≠ none
structure Ph where
  ix : Nat
  v : List V
  d : List D
  ob : List (Addr × HO)
  ok : ∀ a o, (a, o) ∈ ob → ∀ kvs, o ≠ .dK kvs
def Lk (PH : List Ph) (H : Hp) (b : Addr) (o : HO) : Prop := H b = some o ∨ ∃ p ∈ PH, ∃ od, (b, .frz od o) ∈ p.ob
abbrev Rl := List (Nat × Nat)
def rel (R : Rl) (i j : Nat) : Bool := R.any fun p => (p.1 == i && p.2 == j) || (p.1 == j && p.2 == i)
theorem rel_comm (R : Rl) (i j : Nat) : rel R i j = rel R j i := by
  unfold rel; congr 1; funext p; rw [Bool.or_comm]
structure Rp (K : PySem.W.Frag) (F : Fx) (R : Rl) (PH : List Ph) (H : Hp) (σ : St) (e : Ev) (S : FPs) : Prop where
  len : e.length = F.nl
  lenS : σ.length = F.nl
  rep : ∀ i d, e[i]? = some (some d) → ∃ v, σ[i]? = some (some v) ∧ RV K (Res (S i) H) v d
  dis : ∀ i j b, i ≠ j → rel R i j = false → S i b → S j b → Imm H b
  thr : ∀ i b, S i b → H b ≠ none
  frm : ∀ b o, F.H0 b = some o → (Imm F.H0 b ∨ ∀ m ∈ F.mu, ¬ F.S0 m b) → Lk PH H b o
  dom : ∀ b, F.H0 b ≠ none → H b ≠ none
  prv : ∀ i b, S i b → Imm H b ∨ F.H0 b = none ∨ ∃ p, p < F.np ∧ F.S0 p b
  phm : ∀ p, p < F.np → p ∉ F.mu → S (F.nl + p) = F.S0 p
  fz : ∀ i b, S i b → NFrz H b ∨ (∃ p, p < F.np ∧ p ∉ F.mu ∧ S (F.nl + p) b) ∨ ∃ p ∈ PH, ∃ o u, (b, .frz o u) ∈ p.ob
  ph : ∀ p ∈ PH, F.nl + F.np ≤ p.ix ∧ RVs K (Res (S p.ix) H) p.v p.d ∧ ∀ a o, (a, o) ∈ p.ob → S p.ix a ∧ H a = some o
  mup : ∀ m ∈ F.mu, σ[m]? = F.vs0[m]?.map some
  mus : ∀ m ∈ F.mu, ∀ b, S m b → Imm H b ∨ F.H0 b = none ∨ F.S0 m b
  mgr : ∀ m ∈ F.mu, ∀ b, F.S0 m b → S m b
  un : ∀ k b, F.nl + F.np ≤ k → (∀ p ∈ PH, p.ix ≠ k) → ¬ S k b

structure Tm (K : PySem.W.Frag) (Hs : Hp) (H : Hp) (S : FPs) (A : List Nat) (v : V) (d : D) (T : Addr → Prop) : Prop where
  rv : RV K (Res T H) v d
  thr : ∀ b, T b → H b ≠ none
  prv : ∀ b, T b → Imm H b ∨ (∃ k ∈ A, S k b) ∨ (Hs b = none ∧ (∀ k, ¬ S k b) ∧ NFrz H b)
structure Stq (M : List Nat) (H : Hp) (S : FPs) (H' : Hp) (S' : FPs) : Prop where
  keep : ∀ b o, H b = some o → (Imm H b ∨ ∀ k ∈ M, ¬ S k b) → H' b = some o
  thr : ∀ b, H b ≠ none → H' b ≠ none
  oth : ∀ k, k ∉ M → S' k = S k
  grow : ∀ k b, S k b → S' k b
structure Stp (M : List Nat) (H : Hp) (S : FPs) (H' : Hp) (S' : FPs) : Prop extends Stq M H S H' S' where
  new : ∀ k b, S' k b → S k b ∨ H b = none ∨ Imm H' b
def clear (R : Rl) (A M : List Nat) : Bool := A.all fun a => M.all fun m => a != m && !rel R a m
theorem clear_ne {R : Rl} {A M : List Nat} (h : clear R A M = true) {a m : Nat} (ha : a ∈ A) (hm : m ∈ M) : a ≠ m ∧ rel R a m = false := by
  unfold clear at h
  have := List.all_eq_true.mp (List.all_eq_true.mp h a ha) m hm
  simp only [Bool.and_eq_true, bne_iff_ne, ne_eq, Bool.not_eq_true'] at this
  exact this

section
variable {K : PySem.W.Frag} {F : Fx} {R : Rl} {PH : List Ph} {H H' H1 H2 Hs : Hp} {σ : St} {e e' : Ev} {S S' S1 S2 : FPs} {M M1 M2 A : List Nat} {v : V} {d : D} {T : Addr → Prop}
theorem same_thr (h : Same H H') : ∀ b, H b ≠ none → H' b ≠ none := fun b q z => by
  cases e : H b with
  | none => exact q e
  | some o => rw [h _ _ e] at z; cases z
theorem Stp.refl : Stp [] H S H S := ⟨⟨fun _ _ e _ => e, fun _ h => h, fun _ _ => rfl, fun _ _ h => h⟩, fun _ _ h => .inl h⟩
theorem Stp.of_same (h : Same H H') : Stp [] H S H' S := ⟨⟨fun _ _ e _ => h _ _ e, same_thr h, fun _ _ => rfl, fun _ _ h => h⟩, fun _ _ h => .inl h⟩
theorem Stq.imm (s : Stq M H S H' S') {b : Addr} (h : Imm H b) : Imm H' b := h.imp fun xs e => s.keep b _ e (.inl h)
theorem Stp.trans (a : Stp M1 H S H1 S1) (c : Stp M2 H1 S1 H2 S2) : Stp (M1 ++ M2) H S H2 S2 where
  keep := fun b o e k => by
    rcases k with k | k
    · exact c.keep b o (a.keep b o e (.inl k)) (.inl (a.imm k))
    · have e1 := a.keep b o e (.inr fun m hm => k m (List.mem_append_left _ hm))
      by_cases hi : Imm H1 b
      · exact c.keep b o e1 (.inl hi)
      · refine c.keep b o e1 (.inr fun m hm q => ?_)
        rcases a.new m b q with q | q | q
        · exact k m (List.mem_append_right _ hm) q
        · rw [e] at q; cases q
        · exact hi q
  thr := fun b h => c.thr b (a.thr b h)
  oth := fun k hk => by
    have h1 : k ∉ M1 := fun z => hk (List.mem_append_left _ z)
    have h2 : k ∉ M2 := fun z => hk (List.mem_append_right _ z)
    rw [c.oth k h2, a.oth k h1]
  grow := fun k b h => c.grow k b (a.grow k b h)
  new := fun k b h => by
    rcases c.new k b h with h | h | h
    · rcases a.new k b h with h | h | h
      · exact .inl h
      · exact .inr (.inl h)
      · exact .inr (.inr (c.imm h))
    · refine .inr (.inl ?_)
      cases q : H b with
      | none => rfl
      | some o => exact absurd h (a.thr b (by rw [q]; exact fun z => nomatch z))
    · exact .inr (.inr h)
theorem Tm.step (t : Tm K Hs H S A v d T) (r : Rp K F R PH H σ e S) (s : Stp M H S H' S') (c : clear R A M = true) : Tm K Hs H' S' A v d T where
  rv := t.rv.mono (res_mono fun b o tb eb => ⟨tb, by
    rcases t.prv b tb with h | ⟨k, hk, h⟩ | ⟨_, h, _⟩
    · exact s.keep b o eb (.inl h)
    · by_cases hi : Imm H b
      · exact s.keep b o eb (.inl hi)
      · refine s.keep b o eb (.inr fun m hm q => hi ?_)
        obtain ⟨c1, c2⟩ := clear_ne c hk hm
        exact r.dis k m b c1 c2 h q
    · exact s.keep b o eb (.inr fun m _ => h m)⟩)
  thr := fun b tb => s.thr b (t.thr b tb)
  prv := fun b tb => by
    rcases t.prv b tb with h | ⟨k, hk, h⟩ | ⟨h0, h, hf⟩
    · exact .inl (s.imm h)
    · exact .inr (.inl ⟨k, hk, s.grow k b h⟩)
    · by_cases hi : Imm H' b
      · exact .inl hi
      · refine .inr (.inr ⟨h0, fun k q => ?_, fun o u q => ?_⟩)
        · rcases s.new k b q with q | q | q
          · exact h k q
          · exact t.thr b tb q
          · exact hi q
        · cases eb : H b with
          | none => exact t.thr b tb eb
          | some o' =>
            have := s.keep b o' eb (.inr fun m _ => h m)
            rw [this] at q
            exact hf o u (eb.trans q)
theorem Tm.older {Hs' : Hp} (t : Tm K Hs H S A v d T) (h : ∀ b, Hs' b ≠ none → Hs b ≠ none) : Tm K Hs' H S A v d T :=
  ⟨t.rv, t.thr, fun b tb => (t.prv b tb).imp_right (Or.imp_right fun ⟨q, w⟩ => ⟨by
    cases e : Hs' b with
    | none => rfl
    | some o => exact absurd q (h b (by rw [e]; exact fun z => nomatch z)), w⟩)⟩
theorem Tm.mono {A' : List Nat} (t : Tm K Hs H S A v d T) (h : ∀ k ∈ A, k ∈ A') : Tm K Hs H S A' v d T :=
  ⟨t.rv, t.thr, fun b tb => (t.prv b tb).imp_right (Or.imp_left fun ⟨k, hk, q⟩ => ⟨k, h k hk, q⟩)⟩
theorem RV.imm (h : RV K (Res T H) v d) (f : d.flat = true) : RV K (Res (fun b => T b ∧ Imm H b) H) v d := by
  rcases h with ⟨a, ns, rfl, _, _⟩ | h
  · simp [D.flat] at f
  · refine .inr ((DD.imm h f).mono fun b o q => ?_)
    obtain ⟨⟨xs, q1⟩, q2⟩ := res_some q
    obtain ⟨t, q3⟩ := res_some q2
    have hi : Imm H b := ⟨xs, (res_some q1).2⟩
    rw [res_in (show T b ∧ Imm H b from ⟨t, hi⟩)]; exact q3
theorem Tm.flat (t : Tm K Hs H S A v d T) (f : d.flat = true) : Tm K Hs H S [] v d (fun b => T b ∧ Imm H b) :=
  ⟨t.rv.imm f, fun b tb => t.thr b tb.1, fun b tb => .inl tb.2⟩
theorem Rp.same (r : Rp K F R PH H σ e S) (h : Same H H') : Rp K F R PH H' σ e S := by
  have s : Stp [] H S H' S := Stp.of_same h
  have fz : ∀ b, H b ≠ none → NFrz H b → NFrz H' b := fun b n q o u z => by
    cases eb : H b with
    | none => exact n eb
    | some o' => rw [h _ _ eb] at z; exact q o u (eb.trans z)
  refine ⟨r.len, r.lenS, fun i d q => ?_, fun i j b h1 h2 h3 h4 => s.imm (r.dis i j b h1 h2 h3 h4), fun i b q => s.thr b (r.thr i b q), fun b o q1 q2 => (r.frm b o q1 q2).imp_left (h _ _), fun b q => s.thr b (r.dom b q),
    fun i b q => (r.prv i b q).imp_left s.imm, r.phm, fun i b q => (r.fz i b q).imp_left (fz b (r.thr i b q)), fun p hp => ?_, r.mup, fun m hm b q => (r.mus m hm b q).imp_left s.imm, r.mgr, r.un⟩
  · obtain ⟨v, q1, q2⟩ := r.rep i d q
    exact ⟨v, q1, q2.mono (res_mono fun b o t e => ⟨t, h _ _ e⟩)⟩
  · obtain ⟨l, q1, q2⟩ := r.ph p hp
    exact ⟨l, q1.mono (res_mono fun b o t e => ⟨t, h _ _ e⟩), fun a o z => ⟨(q2 a o z).1, h _ _ (q2 a o z).2⟩⟩
end

def SE (K : PySem.W.Frag) (F : Fx) (R : Rl) (NM : List Nat) (t : TE) (den : Ev → Option (D × Ev)) (A M : List Nat) : Prop :=
  ∀ (PH : List Ph), PH.map (·.ix) = NM → ∀ (σ : St) (H : Hp) (e : Ev) (S : FPs) (Q : VK) (d : D) (e' : Ev), Rp K F R PH H σ e S → den e = some (d, e') →
    (∀ v H' S' T, Stp M H S H' S' → Rp K F R PH H' σ e' S' → Tm K H H' S' A v d T → Q v H') → t σ H Q
def ST (K : PySem.W.Frag) (F : Fx) (R : Rl) (NM : List Nat) (t : TT) (den : Ev → Option (Bool × Ev)) (M : List Nat) : Prop :=
  ∀ (PH : List Ph), PH.map (·.ix) = NM → ∀ (σ : St) (H : Hp) (e : Ev) (S : FPs) (Q : Bool → Hp → Prop) (b : Bool) (e' : Ev), Rp K F R PH H σ e S → den e = some (b, e') →
    (∀ H' S', Stp M H S H' S' → Rp K F R PH H' σ e' S' → Q b H') → t σ H Q
inductive TmL (K : PySem.W.Frag) (Hs : Hp) (H : Hp) (S : FPs) : List (List Nat) → List V → List D → List (Addr → Prop) → Prop
  | nil : TmL K Hs H S [] [] [] []
  | cons {A As v vs d ds T Ts} (h : Tm K Hs H S A v d T) (hs : TmL K Hs H S As vs ds Ts) : TmL K Hs H S (A :: As) (v :: vs) (d :: ds) (T :: Ts)
theorem TmL.older {As : List (List Nat)} {K : PySem.W.Frag} {Hs Hs' H : Hp} {S : FPs} {vs : List V} {ds : List D} {Ts : List (Addr → Prop)} (h : TmL K Hs H S As vs ds Ts) (k : ∀ b, Hs' b ≠ none → Hs b ≠ none) : TmL K Hs' H S As vs ds Ts := by
  induction h with
  | nil => exact .nil
  | cons h _ ih => exact .cons (h.older k) ih
def SA (K : PySem.W.Frag) (F : Fx) (R : Rl) (NM : List Nat) (t : TA) (den : Ev → Option (List D × Ev)) (As : List (List Nat)) (M : List Nat) : Prop :=
  ∀ (PH : List Ph), PH.map (·.ix) = NM → ∀ (σ : St) (H : Hp) (e : Ev) (S : FPs) (Q : List V → Hp → Prop) (ds : List D) (e' : Ev), Rp K F R PH H σ e S → den e = some (ds, e') →
    (∀ vs H' S' Ts, Stp M H S H' S' → Rp K F R PH H' σ e' S' → TmL K H H' S' As vs ds Ts → Q vs H') → t σ H Q
structure VE (X : Cx) (F : Fx) (R : Rl) (NM : List Nat) (ex : Expr) (den : Ev → Option (D × Ev)) (A M : List Nat) : Prop where
  ex : ∃ t, PE X ex t ∧ SE X.K F R NM t den A M
structure VT (X : Cx) (F : Fx) (R : Rl) (NM : List Nat) (ex : Expr) (den : Ev → Option (Bool × Ev)) (M : List Nat) : Prop where
  ex : ∃ t, PT X ex t ∧ ST X.K F R NM t den M
structure VW (X : Cx) (F : Fx) (R : Rl) (NM : List Nat) (ex : Expr) (den : Ev → Option (Bool × Ev)) (M : List Nat) : Prop where
  ex : ∃ t, PW X ex t ∧ ST X.K F R NM t den M
structure VA (X : Cx) (F : Fx) (R : Rl) (NM : List Nat) (es : List Expr) (den : Ev → Option (List D × Ev)) (As : List (List Nat)) (M : List Nat) : Prop where
  ex : ∃ t, PA X es t ∧ SA X.K F R NM t den As M

section
variable {X : Cx} {F : Fx} {R : Rl} {NM : List Nat} {a b : Expr} {es : List Expr} {pos : Pos} {da db : Ev → Option (D × Ev)} {ds : Ev → Option (List D × Ev)} {A A1 A2 M M1 M2 : List Nat} {As : List (List Nat)}
def dVar (i : Nat) : Ev → Option (D × Ev) := fun e => match e[i]? with | some (some d) => some (d, e) | _ => none
theorem ve_name (i : Nat) {x : Str} (hN : X.N[i]? = some x := by rfl) (hv : Vis X.env.scope x := by first | exact Or.inl rfl | exact Or.inr (Or.inl rfl) | exact Or.inr (Or.inr rfl)) (hd : (x == ("__debug__" : Str)) = false := by decide)
    (hcd : (x == ("__classdict__" : Str)) = false := by decide) : VE X F R NM (.Name x pos) (dVar i) [i] [] := by
  refine ⟨_, pe_var hN hv hd hcd, fun PH hP σ H e S Q d e' r h q => ?_⟩
  unfold dVar at h
  split at h
  · rename_i d' hd'
    cases h
    obtain ⟨v, h1, h2⟩ := r.rep i _ hd'
    exact ⟨v, h1, q v H S (S i) Stp.refl r ⟨h2, r.thr i, fun b tb => .inr (.inl ⟨i, by simp, tb⟩)⟩⟩
  · cases h
def dC (d : D) : Ev → Option (D × Ev) := fun e => some (d, e)
theorem se_c {K : PySem.W.Frag} {v : V} {d : D} (h : ∀ H, DD H v d) : SE K F R NM (tC v) (dC d) [] [] := fun PH hP σ H e S Q d e' r hd q => by
  cases hd
  exact q v H S (fun _ => False) Stp.refl r ⟨.inr (h _), fun b z => z.elim, fun b z => z.elim⟩
theorem ve_int {i j} : VE X F R NM (.Constant (.int i) j pos) (dC (.int i)) [] [] := ⟨_, pe_int, se_c fun _ => .int i⟩
theorem ve_bl {c j} : VE X F R NM (.Constant (.bool c) j pos) (dC (.bl c)) [] [] := ⟨_, pe_bl, se_c fun _ => .bl c⟩
theorem ve_non {j} : VE X F R NM (.Constant .none j pos) (dC .non) [] [] := ⟨_, pe_non, se_c fun _ => .non⟩
theorem ve_str {x j} : VE X F R NM (.Constant (.str x) j pos) (dC (.str x)) [] [] := ⟨_, pe_str, se_c fun _ => .str x⟩
theorem ve_gint {x : Str} {i : Int} (hg : Gl X x) (hm : ∃ t, X.mg x = some (.int i t)) (hd : (x == ("__debug__" : Str)) = false := by decide) : VE X F R NM (.Name x pos) (dC (.int i)) [] [] := by
  obtain ⟨t, hm⟩ := hm
  exact ⟨_, pe_glob (v := .int i) hg hm ⟨t, rfl⟩ hd, se_c fun _ => .int i⟩
def dFl (den : Ev → Option (D × Ev)) : Ev → Option (D × Ev) := fun e => match den e with | some (d, e') => if d.flat then some (d, e') else none | none => none
theorem ve_flat (h : VE X F R NM a da A M) : VE X F R NM a (dFl da) [] M := by
  obtain ⟨t, h1, h2⟩ := h.ex
  refine ⟨t, h1, fun PH hP σ H e S Q d e' r hd q => ?_⟩
  unfold dFl at hd
  split at hd
  · rename_i d1 e1 hd1
    split at hd
    · rename_i hf
      cases hd
      exact h2 PH hP σ H e S Q _ _ r hd1 fun v H' S' T s r' t => q v H' S' _ s r' (t.flat hf)
    · cases hd
  · cases hd

def aNil : Ev → Option (List D × Ev) := fun e => some ([], e)
def aCons (da : Ev → Option (D × Ev)) (ds : Ev → Option (List D × Ev)) : Ev → Option (List D × Ev) := fun e => match da e with
  | some (x, e1) => match ds e1 with | some (xs, e2) => some (x :: xs, e2) | none => none
  | none => none
theorem va_nil : VA X F R NM [] aNil [] [] := ⟨_, pa_nil, fun PH hP σ H e S Q ds e' r hd q => by cases hd; exact q [] H S [] Stp.refl r .nil⟩
theorem va_cons (h1 : VE X F R NM a da A M1) (h2 : VA X F R NM es ds As M2) (c : clear R A M2 = true := by rfl) (hs : starEach (a :: es) X.env = (false, eval a X.env) :: starEach es X.env := by rfl) :
    VA X F R NM (a :: es) (aCons da ds) (A :: As) (M1 ++ M2) := by
  obtain ⟨t1, p1, s1⟩ := h1.ex
  obtain ⟨t2, p2, s2⟩ := h2.ex
  refine ⟨_, pa_cons p1 p2 hs, fun PH hP σ H e S Q xs e' r hd q => ?_⟩
  unfold aCons at hd
  split at hd
  · rename_i x e1 hx
    split at hd
    · rename_i ys e2 hy
      cases hd
      refine s1 PH hP σ H e S _ _ _ r hx fun v H1 S1 T st1 r1 tm1 => ?_
      refine s2 PH hP σ H1 _ S1 _ _ _ r1 hy fun vs H2 S2 Ts st2 r2 tm2 => ?_
      exact q (v :: vs) H2 S2 (T :: Ts) (st1.trans st2) r2 (.cons (tm1.step r1 st2 c) (tm2.older st1.thr))
    · cases hd
  · cases hd
def allT (Ts : List (Addr → Prop)) : Addr → Prop := fun b => ∃ T ∈ Ts, T b
theorem TmL.all {K : PySem.W.Frag} {Hs H : Hp} {S : FPs} {vs : List V} {ds : List D} {Ts : List (Addr → Prop)} (h : TmL K Hs H S As vs ds Ts) :
    RVs K (Res (allT Ts) H) vs ds ∧ (∀ b, allT Ts b → H b ≠ none) ∧ ∀ b, allT Ts b → Imm H b ∨ (∃ k ∈ As.flatten, S k b) ∨ (Hs b = none ∧ (∀ k, ¬ S k b) ∧ NFrz H b) := by
  induction h with
  | nil => exact ⟨.nil, (fun b z => absurd z.choose_spec.1 (by simp)), (fun b z => absurd z.choose_spec.1 (by simp))⟩
  | @cons A As v vs d ds T Ts h _ ih =>
    obtain ⟨i1, i2, i3⟩ := ih
    refine ⟨.cons (h.rv.mono (res_up fun b tb => ⟨T, List.mem_cons_self, tb⟩)) (i1.mono (res_up fun b ⟨U, hU, u⟩ => ⟨U, List.mem_cons_of_mem _ hU, u⟩)), fun b ⟨U, hU, u⟩ => ?_, fun b ⟨U, hU, u⟩ => ?_⟩
    · rcases List.mem_cons.mp hU with rfl | hU
      · exact h.thr b u
      · exact i2 b ⟨U, hU, u⟩
    · rcases List.mem_cons.mp hU with rfl | hU
      · refine (h.prv b u).imp_right (Or.imp_left fun ⟨k, hk, q⟩ => ⟨k, ?_, q⟩)
        rw [List.flatten_cons]; exact List.mem_append_left _ hk
      · refine (i3 b ⟨U, hU, u⟩).imp_right (Or.imp_left fun ⟨k, hk, q⟩ => ⟨k, ?_, q⟩)
        rw [List.flatten_cons]; exact List.mem_append_right _ hk
end

structure Gr (K : PySem.W.Frag) (H : Hp) (T : Addr → Prop) (H' : Hp) (T' : Addr → Prop) (v : V) (d : D) : Prop where
  same : Same H H'
  rv : RV K (Res T' H') v d
  new : ∀ b, T' b → T b ∨ (H b = none ∧ H' b ≠ none ∧ NFrz H' b)
theorem Gr.tm {K : PySem.W.Frag} {F : Fx} {R : Rl} {PH : List Ph} {Hs H H' : Hp} {σ : St} {e : Ev} {S : FPs} {A : List Nat} {v : V} {d : D} {T T' : Addr → Prop} (g : Gr K H T H' T' v d) (r : Rp K F R PH H σ e S) (hs : ∀ b, Hs b ≠ none → H b ≠ none)
    (h1 : ∀ b, T b → H b ≠ none) (h2 : ∀ b, T b → Imm H b ∨ (∃ k ∈ A, S k b) ∨ (Hs b = none ∧ (∀ k, ¬ S k b) ∧ NFrz H b)) : Tm K Hs H' S A v d T' := by
  have s : Stp [] H S H' S := Stp.of_same g.same
  refine ⟨g.rv, fun b tb => ?_, fun b tb => ?_⟩
  · rcases g.new b tb with q | ⟨_, q, _⟩
    · exact s.thr b (h1 b q)
    · exact q
  · rcases g.new b tb with q | ⟨q1, q2, q3⟩
    · rcases h2 b q with z | z | ⟨z1, z2, z3⟩
      · exact .inl (s.imm z)
      · exact .inr (.inl z)
      · refine .inr (.inr ⟨z1, z2, fun o u w => ?_⟩)
        cases eb : H b with
        | none => exact h1 b q eb
        | some o' => rw [g.same _ _ eb] at w; exact z3 o u (eb.trans w)
    · refine .inr (.inr ⟨?_, fun k z => r.thr k b z q1, q3⟩)
      cases eb : Hs b with
      | none => rfl
      | some o => exact absurd q1 (hs b (by rw [eb]; exact fun z => nomatch z))
def Sc (v : V) (d : D) : Prop := DD (fun _ => none) v d
theorem Sc.tm {K : PySem.W.Frag} {Hs H : Hp} {S : FPs} {A : List Nat} {v : V} {d : D} (h : Sc v d) : Tm K Hs H S A v d (fun _ => False) :=
  ⟨.inr (DD.mono (H := fun _ => none) (fun b o q => by cases q) h), fun b z => z.elim, fun b z => z.elim⟩
def PsL (K : PySem.W.Frag) (r : List V → Hp → VK → Prop) (p : List D → Option D) : Prop :=
  ∀ (H : Hp) (vs : List V) (ds : List D) (d : D) (Q : VK), RVs K H vs ds → p ds = some d → (∀ v, Sc v d → Q v H) → r vs H Q
def PgL (K : PySem.W.Frag) (r : List V → Hp → VK → Prop) (p : List D → Option D) : Prop :=
  ∀ (H : Hp) (T : Addr → Prop) (vs : List V) (ds : List D) (d : D) (Q : VK), RVs K (Res T H) vs ds → p ds = some d → (∀ v H' T', Gr K H T H' T' v d → Q v H') → r vs H Q
def Ps2 (K : PySem.W.Frag) (r : R2) (p : D → D → Option D) : Prop :=
  ∀ (H : Hp) (x y : V) (dx dy d : D) (Q : VK), RV K H x dx → RV K H y dy → p dx dy = some d → (∀ v, Sc v d → Q v H) → r x y H Q
def Pg2 (K : PySem.W.Frag) (r : R2) (p : D → D → Option D) : Prop :=
  ∀ (H : Hp) (T : Addr → Prop) (x y : V) (dx dy d : D) (Q : VK), RV K (Res T H) x dx → RV K (Res T H) y dy → p dx dy = some d → (∀ v H' T', Gr K H T H' T' v d → Q v H') → r x y H Q
def d2 (p : D → D → Option D) (da db : Ev → Option (D × Ev)) : Ev → Option (D × Ev) := fun e => match da e with
  | some (x, e1) => match db e1 with
    | some (y, e2) => match p x y with | some z => some (z, e2) | none => none
    | none => none
  | none => none
def dL (p : List D → Option D) (ds : Ev → Option (List D × Ev)) : Ev → Option (D × Ev) := fun e => match ds e with
  | some (xs, e1) => match p xs with | some z => some (z, e1) | none => none
  | none => none
section
variable {X : Cx} {F : Fx} {R : Rl} {NM : List Nat} {a b : Expr} {es : List Expr} {pos : Pos} {da db : Ev → Option (D × Ev)} {ds : Ev → Option (List D × Ev)} {A A1 A2 M M1 M2 : List Nat} {As : List (List Nat)}
theorem se_s2 {K : PySem.W.Frag} {ta tb : TE} {r : R2} {p : D → D → Option D} (hp : Ps2 K r p) (h1 : SE K F R NM ta da A1 M1) (h2 : SE K F R NM tb db A2 M2) (c : clear R A1 M2 = true) : SE K F R NM (tOp r ta tb) (d2 p da db) [] (M1 ++ M2) := by
  intro PH hP σ H e S Q d e' rr hd q
  unfold d2 at hd
  split at hd
  · rename_i x e1 hx
    split at hd
    · rename_i y e2 hy
      split at hd
      · rename_i z hz
        cases hd
        refine h1 PH hP σ H e S _ _ _ rr hx fun v H1 S1 T st1 r1 tm1 => ?_
        refine h2 PH hP σ H1 _ S1 _ _ _ r1 hy fun u H2 S2 U st2 r2 tm2 => ?_
        have t1 := tm1.step r1 st2 c
        exact hp H2 v u _ _ _ _ (t1.rv.mono res_same) (tm2.rv.mono res_same) hz fun w hw => q w H2 S2 _ (st1.trans st2) r2 hw.tm
      · cases hd
    · cases hd
  · cases hd
theorem se_g2 {K : PySem.W.Frag} {ta tb : TE} {r : R2} {p : D → D → Option D} (hp : Pg2 K r p) (h1 : SE K F R NM ta da A1 M1) (h2 : SE K F R NM tb db A2 M2) (c : clear R A1 M2 = true) : SE K F R NM (tOp r ta tb) (d2 p da db) (A1 ++ A2) (M1 ++ M2) := by
  intro PH hP σ H e S Q d e' rr hd q
  unfold d2 at hd
  split at hd
  · rename_i x e1 hx
    split at hd
    · rename_i y e2 hy
      split at hd
      · rename_i z hz
        cases hd
        refine h1 PH hP σ H e S _ _ _ rr hx fun v H1 S1 T st1 r1 tm1 => ?_
        refine h2 PH hP σ H1 _ S1 _ _ _ r1 hy fun u H2 S2 U st2 r2 tm2 => ?_
        have t1 := tm1.step r1 st2 c
        refine hp H2 (fun b => T b ∨ U b) v u _ _ _ _ (t1.rv.mono (res_up fun b q => .inl q)) (tm2.rv.mono (res_up fun b q => .inr q)) hz fun w H3 T3 g => q w H3 S2 T3 ?_ (r2.same g.same) (g.tm r2 (st1.trans st2).thr (fun b tb => tb.elim (t1.thr b) (tm2.thr b)) fun b tb => ?_)
        · have := (st1.trans st2).trans (Stp.of_same (S := S2) g.same)
          rw [List.append_nil] at this; exact this
        · rcases tb with tb | tb
          · exact (t1.prv b tb).imp_right (Or.imp_left fun ⟨k, hk, q⟩ => ⟨k, List.mem_append_left _ hk, q⟩)
          · exact ((tm2.older st1.thr).prv b tb).imp_right (Or.imp_left fun ⟨k, hk, q⟩ => ⟨k, List.mem_append_right _ hk, q⟩)
      · cases hd
    · cases hd
  · cases hd
theorem se_sL {K : PySem.W.Frag} {t : TA} {r : List V → Hp → VK → Prop} {p : List D → Option D} (hp : PsL K r p) (h : SA K F R NM t ds As M) : SE K F R NM (tCB r t) (dL p ds) [] M := by
  intro PH hP σ H e S Q d e' rr hd q
  unfold dL at hd
  split at hd
  · rename_i xs e1 hx
    split at hd
    · rename_i z hz
      cases hd
      refine h PH hP σ H e S _ _ _ rr hx fun vs H1 S1 Ts st1 r1 tm1 => ?_
      exact hp H1 vs _ _ _ (tm1.all.1.mono res_same) hz fun w hw => q w H1 S1 _ st1 r1 hw.tm
    · cases hd
  · cases hd
theorem se_gL {K : PySem.W.Frag} {t : TA} {r : List V → Hp → VK → Prop} {p : List D → Option D} (hp : PgL K r p) (h : SA K F R NM t ds As M) : SE K F R NM (tCB r t) (dL p ds) As.flatten M := by
  intro PH hP σ H e S Q d e' rr hd q
  unfold dL at hd
  split at hd
  · rename_i xs e1 hx
    split at hd
    · rename_i z hz
      cases hd
      refine h PH hP σ H e S _ _ _ rr hx fun vs H1 S1 Ts st1 r1 tm1 => ?_
      obtain ⟨k1, k2, k3⟩ := tm1.all
      refine hp H1 (allT Ts) vs _ _ _ k1 hz fun w H3 T3 g => q w H3 S1 T3 ?_ (r1.same g.same) (g.tm r1 st1.thr k2 k3)
      have := st1.trans (Stp.of_same (S := S1) g.same)
      rw [List.append_nil] at this; exact this
    · cases hd
  · cases hd
theorem ve_op_s {op : Operator} {r : R2} {p : D → D → Option D} (ho : OpR X (binaryOp op) r) (hp : Ps2 X.K r p) (h1 : VE X F R NM a da A1 M1) (h2 : VE X F R NM b db A2 M2) (c : clear R A1 M2 = true := by rfl) : VE X F R NM (.BinOp a op b pos) (d2 p da db) [] (M1 ++ M2) := by
  obtain ⟨t1, p1, s1⟩ := h1.ex
  obtain ⟨t2, p2, s2⟩ := h2.ex
  exact ⟨_, pe_op ho p1 p2, se_s2 hp s1 s2 c⟩
theorem ve_ix_s {r : R2} {p : D → D → Option D} (ho : IxR X r) (hp : Ps2 X.K r p) (h1 : VE X F R NM a da A1 M1) (h2 : VE X F R NM b db A2 M2) (c : clear R A1 M2 = true := by rfl) (hs : PlainIx b := by exact fun _ _ => rfl) : VE X F R NM (.Subscript a b pos) (d2 p da db) [] (M1 ++ M2) := by
  obtain ⟨t1, p1, s1⟩ := h1.ex
  obtain ⟨t2, p2, s2⟩ := h2.ex
  exact ⟨_, pe_ix ho p1 p2 hs, se_s2 hp s1 s2 c⟩
theorem ve_ix_g {r : R2} {p : D → D → Option D} (ho : IxR X r) (hp : Pg2 X.K r p) (h1 : VE X F R NM a da A1 M1) (h2 : VE X F R NM b db A2 M2) (c : clear R A1 M2 = true := by rfl) (hs : PlainIx b := by exact fun _ _ => rfl) : VE X F R NM (.Subscript a b pos) (d2 p da db) (A1 ++ A2) (M1 ++ M2) := by
  obtain ⟨t1, p1, s1⟩ := h1.ex
  obtain ⟨t2, p2, s2⟩ := h2.ex
  exact ⟨_, pe_ix ho p1 p2 hs, se_g2 hp s1 s2 c⟩
theorem ve_cmp {op : CmpOp} {r : R2} {p : D → D → Option D} (ho : OpR X (compareOp op) r) (hp : Ps2 X.K r p) (h1 : VE X F R NM a da A1 M1) (h2 : VE X F R NM b db A2 M2) (c : clear R A1 M2 = true := by rfl) (hm : behindInMarks op b = false := by first | exact nomark _ | rfl) : VE X F R NM (.Compare a [op] [b] pos) (d2 p da db) [] (M1 ++ M2) := by
  obtain ⟨t1, p1, s1⟩ := h1.ex
  obtain ⟨t2, p2, s2⟩ := h2.ex
  exact ⟨_, pe_cmpR ho p1 p2 hm, se_s2 hp s1 s2 c⟩
def dBool (den : Ev → Option (D × Ev)) : Ev → Option (Bool × Ev) := fun e => match den e with | some (.bl b, e') => some (b, e') | _ => none
theorem st_bool {K : PySem.W.Frag} {t : TE} (h : SE K F R NM t da A M) : ST K F R NM (tTest t) (dBool da) M := by
  intro PH hP σ H e S Q b e' rr hd q
  unfold dBool at hd
  split at hd
  · rename_i b' e1 hx
    cases hd
    refine h PH hP σ H e S _ _ _ rr hx fun v H1 S1 T st1 r1 tm1 => ?_
    rcases tm1.rv with ⟨_, _, z, _⟩ | z
    · cases z
    · cases z; exact ⟨b, rfl, q H1 S1 st1 r1⟩
  · cases hd
theorem vt_cmp {op : CmpOp} {r : R2} {p : D → D → Option D} (ho : OpR X (compareOp op) r) (hp : Ps2 X.K r p) (h1 : VE X F R NM a da A1 M1) (h2 : VE X F R NM b db A2 M2) (c : clear R A1 M2 = true := by rfl) (hm : behindInMarks op b = false := by first | exact nomark _ | rfl) : VT X F R NM (.Compare a [op] [b] pos) (dBool (d2 p da db)) (M1 ++ M2) := by
  obtain ⟨t1, p1, s1⟩ := h1.ex
  obtain ⟨t2, p2, s2⟩ := h2.ex
  exact ⟨_, pt_cmpR ho p1 p2 hm, st_bool (se_s2 hp s1 s2 c)⟩
theorem vt_val (h : VE X F R NM a da A M) (he : ∀ whole, isTrue a X.env whole = (do let v ← whole; standAt a.pos; holding [v] (truthy v)) := by intro _; rfl) : VT X F R NM a (dBool da) M := by
  obtain ⟨t, p, s⟩ := h.ex
  exact ⟨_, pt_val p he, st_bool s⟩
def tNotD (dt : Ev → Option (Bool × Ev)) : Ev → Option (Bool × Ev) := fun e => match dt e with | some (b, e') => some (!b, e') | none => none
def tAndD (dt du : Ev → Option (Bool × Ev)) : Ev → Option (Bool × Ev) := fun e => match dt e with | some (true, e') => du e' | some (false, e') => some (false, e') | none => none
def tOrD (dt du : Ev → Option (Bool × Ev)) : Ev → Option (Bool × Ev) := fun e => match dt e with | some (false, e') => du e' | some (true, e') => some (true, e') | none => none
theorem Stp.weak {M M' : List Nat} {H H' : Hp} {S S' : FPs} (s : Stp M H S H' S') (h : ∀ m ∈ M, m ∈ M') : Stp M' H S H' S' :=
  ⟨⟨fun b o e k => s.keep b o e (k.imp_right fun q m hm => q m (h m hm)), s.thr, fun k hk => s.oth k fun z => hk (h k z), s.grow⟩, s.new⟩
variable {dt du : Ev → Option (Bool × Ev)} {rest : List Expr}
theorem vt_not (h : VT X F R NM a dt M) : VT X F R NM (.UnaryOp .Not a pos) (tNotD dt) M := by
  obtain ⟨t, p, s⟩ := h.ex
  refine ⟨_, pt_not p, fun PH hP σ H e S Q b e' rr hd q => ?_⟩
  unfold tNotD at hd
  split at hd
  · rename_i c e1 hx
    cases hd
    exact s PH hP σ H e S (fun c H1 => Q (!c) H1) _ _ rr hx fun H1 S1 st1 r1 => q H1 S1 st1 r1
  · cases hd
theorem vw_and1 (h : VT X F R NM a dt M) : VW X F R NM (.BoolOp .And [a] pos) dt M := by
  obtain ⟨t, p, s⟩ := h.ex
  exact ⟨_, pw_and1 p, s⟩
theorem vw_or1 (h : VT X F R NM a dt M) : VW X F R NM (.BoolOp .Or [a] pos) dt M := by
  obtain ⟨t, p, s⟩ := h.ex
  exact ⟨_, pw_or1 p, s⟩
theorem st_and {K : PySem.W.Frag} {t u : TT} (h1 : ST K F R NM t dt M1) (h2 : ST K F R NM u du M2) : ST K F R NM (tAnd t u) (tAndD dt du) (M1 ++ M2) := by
  intro PH hP σ H e S Q b e' rr hd q
  unfold tAndD at hd
  split at hd
  · rename_i e1 hx
    refine h1 PH hP σ H e S _ _ _ rr hx fun H1 S1 st1 r1 => ?_
    rw [if_pos rfl]
    exact h2 PH hP σ H1 e1 S1 Q b e' r1 hd fun H2 S2 st2 r2 => q H2 S2 (st1.trans st2) r2
  · rename_i e1 hx
    cases hd
    refine h1 PH hP σ H e S _ _ _ rr hx fun H1 S1 st1 r1 => ?_
    rw [if_neg Bool.false_ne_true]
    exact q H1 S1 (st1.weak fun m hm => List.mem_append_left _ hm) r1
  · cases hd
theorem st_or {K : PySem.W.Frag} {t u : TT} (h1 : ST K F R NM t dt M1) (h2 : ST K F R NM u du M2) : ST K F R NM (tOr t u) (tOrD dt du) (M1 ++ M2) := by
  intro PH hP σ H e S Q b e' rr hd q
  unfold tOrD at hd
  split at hd
  · rename_i e1 hx
    refine h1 PH hP σ H e S _ _ _ rr hx fun H1 S1 st1 r1 => ?_
    rw [if_neg Bool.false_ne_true]
    exact h2 PH hP σ H1 e1 S1 Q b e' r1 hd fun H2 S2 st2 r2 => q H2 S2 (st1.trans st2) r2
  · rename_i e1 hx
    cases hd
    refine h1 PH hP σ H e S _ _ _ rr hx fun H1 S1 st1 r1 => ?_
    rw [if_pos rfl]
    exact q H1 S1 (st1.weak fun m hm => List.mem_append_left _ hm) r1
  · cases hd
theorem vw_and (h1 : VT X F R NM a dt M1) (h2 : VW X F R NM (.BoolOp .And (b :: rest) pos) du M2) : VW X F R NM (.BoolOp .And (a :: b :: rest) pos) (tAndD dt du) (M1 ++ M2) := by
  obtain ⟨t1, p1, s1⟩ := h1.ex
  obtain ⟨t2, p2, s2⟩ := h2.ex
  exact ⟨_, pw_and p1 p2, st_and s1 s2⟩
theorem vw_or (h1 : VT X F R NM a dt M1) (h2 : VW X F R NM (.BoolOp .Or (b :: rest) pos) du M2) : VW X F R NM (.BoolOp .Or (a :: b :: rest) pos) (tOrD dt du) (M1 ++ M2) := by
  obtain ⟨t1, p1, s1⟩ := h1.ex
  obtain ⟨t2, p2, s2⟩ := h2.ex
  exact ⟨_, pw_or p1 p2, st_or s1 s2⟩
theorem vt_w (h : VW X F R NM a dt M) : VT X F R NM a dt M := by
  obtain ⟨t, p, s⟩ := h.ex
  exact ⟨_, p.pt, s⟩
def vNotD (da : Ev → Option (D × Ev)) : Ev → Option (D × Ev) := fun e => match da e with | some (.bl b, e') => some (.bl (!b), e') | _ => none
def vAndD (da db : Ev → Option (D × Ev)) : Ev → Option (D × Ev) := fun e => match da e with | some (.bl true, e') => db e' | some (.bl false, e') => some (.bl false, e') | _ => none
def vOrD (da db : Ev → Option (D × Ev)) : Ev → Option (D × Ev) := fun e => match da e with | some (.bl false, e') => db e' | some (.bl true, e') => some (.bl true, e') | _ => none
theorem RV.bl {K : PySem.W.Frag} {H : Hp} {v : V} {b : Bool} (h : RV K H v (.bl b)) : v = .bl b := by
  rcases h with ⟨_, _, z, _⟩ | z
  · cases z
  · cases z; rfl
theorem ve_not (h : VE X F R NM a da A M) : VE X F R NM (.UnaryOp .Not a pos) (vNotD da) [] M := by
  obtain ⟨t, p, s⟩ := h.ex
  refine ⟨_, pe_not p, fun PH hP σ H e S Q d e' rr hd q => ?_⟩
  unfold vNotD at hd
  split at hd
  · rename_i c e1 hx
    cases hd
    refine s PH hP σ H e S _ _ _ rr hx fun v H1 S1 T st1 r1 tm1 => ?_
    exact ⟨c, tm1.rv.bl, q _ H1 S1 _ st1 r1 (Sc.tm (DD.bl _))⟩
  · cases hd
theorem ve_one {op} (h : VE X F R NM a da A M) : VE X F R NM (.BoolOp op [a] pos) da A M := by
  obtain ⟨t, p, s⟩ := h.ex
  exact ⟨_, pe_one p, s⟩
theorem ve_and (h1 : VE X F R NM a da A1 M1) (h2 : VE X F R NM (.BoolOp .And (b :: rest) pos) db A2 M2) : VE X F R NM (.BoolOp .And (a :: b :: rest) pos) (vAndD da db) A2 (M1 ++ M2) := by
  obtain ⟨t1, p1, s1⟩ := h1.ex
  obtain ⟨t2, p2, s2⟩ := h2.ex
  refine ⟨_, pe_and p1 p2, fun PH hP σ H e S Q d e' rr hd q => ?_⟩
  unfold vAndD at hd
  split at hd
  · rename_i e1 hx
    refine s1 PH hP σ H e S _ _ _ rr hx fun v H1 S1 T st1 r1 tm1 => ⟨true, tm1.rv.bl, ?_⟩
    rw [if_pos rfl]
    exact s2 PH hP σ H1 e1 S1 Q d e' r1 hd fun v H2 S2 T st2 r2 tm2 => q v H2 S2 T (st1.trans st2) r2 (tm2.older st1.thr)
  · rename_i e1 hx
    cases hd
    refine s1 PH hP σ H e S _ _ _ rr hx fun v H1 S1 T st1 r1 tm1 => ⟨false, tm1.rv.bl, ?_⟩
    rw [if_neg Bool.false_ne_true]
    exact q _ H1 S1 _ (st1.weak fun m hm => List.mem_append_left _ hm) r1 (Sc.tm (DD.bl _))
  · cases hd
theorem ve_or (h1 : VE X F R NM a da A1 M1) (h2 : VE X F R NM (.BoolOp .Or (b :: rest) pos) db A2 M2) : VE X F R NM (.BoolOp .Or (a :: b :: rest) pos) (vOrD da db) A2 (M1 ++ M2) := by
  obtain ⟨t1, p1, s1⟩ := h1.ex
  obtain ⟨t2, p2, s2⟩ := h2.ex
  refine ⟨_, pe_or p1 p2, fun PH hP σ H e S Q d e' rr hd q => ?_⟩
  unfold vOrD at hd
  split at hd
  · rename_i e1 hx
    refine s1 PH hP σ H e S _ _ _ rr hx fun v H1 S1 T st1 r1 tm1 => ⟨false, tm1.rv.bl, ?_⟩
    rw [if_neg Bool.false_ne_true]
    exact s2 PH hP σ H1 e1 S1 Q d e' r1 hd fun v H2 S2 T st2 r2 tm2 => q v H2 S2 T (st1.trans st2) r2 (tm2.older st1.thr)
  · rename_i e1 hx
    cases hd
    refine s1 PH hP σ H e S _ _ _ rr hx fun v H1 S1 T st1 r1 tm1 => ⟨true, tm1.rv.bl, ?_⟩
    rw [if_pos rfl]
    exact q _ H1 S1 _ (st1.weak fun m hm => List.mem_append_left _ hm) r1 (Sc.tm (DD.bl _))
  · cases hd
def dIf (dt : Ev → Option (Bool × Ev)) (da db : Ev → Option (D × Ev)) : Ev → Option (D × Ev) := fun e => match dt e with | some (true, e') => da e' | some (false, e') => db e' | none => none
theorem ve_if {c : Expr} {M3 : List Nat} (h : VT X F R NM c dt M3) (h1 : VE X F R NM a da A1 M1) (h2 : VE X F R NM b db A2 M2) : VE X F R NM (.IfExp c a b pos) (dIf dt da db) (A1 ++ A2) (M3 ++ (M1 ++ M2)) := by
  obtain ⟨t, p, s⟩ := h.ex
  obtain ⟨t1, p1, s1⟩ := h1.ex
  obtain ⟨t2, p2, s2⟩ := h2.ex
  refine ⟨_, pe_ifExp p p1 p2, fun PH hP σ H e S Q d e' rr hd q => ?_⟩
  unfold dIf at hd
  split at hd
  · rename_i e1 hx
    refine s PH hP σ H e S _ _ _ rr hx fun H1 S1 st1 r1 => ?_
    rw [if_pos rfl]
    exact s1 PH hP σ H1 e1 S1 Q d e' r1 hd fun v H2 S2 T st2 r2 tm2 => q v H2 S2 T ((st1.trans st2).weak fun m hm => (List.mem_append.mp hm).elim (List.mem_append_left _) fun z => List.mem_append_right _ (List.mem_append_left _ z)) r2 ((tm2.older st1.thr).mono fun k hk => List.mem_append_left _ hk)
  · rename_i e1 hx
    refine s PH hP σ H e S _ _ _ rr hx fun H1 S1 st1 r1 => ?_
    rw [if_neg Bool.false_ne_true]
    exact s2 PH hP σ H1 e1 S1 Q d e' r1 hd fun v H2 S2 T st2 r2 tm2 => q v H2 S2 T ((st1.trans st2).weak fun m hm => (List.mem_append.mp hm).elim (List.mem_append_left _) fun z => List.mem_append_right _ (List.mem_append_right _ z)) r2 ((tm2.older st1.thr).mono fun k hk => List.mem_append_right _ hk)
  · cases hd
theorem RVs.dds {K : PySem.W.Frag} {H : Hp} {vs : List V} {ds : List D} (h : RVs K H vs ds) (n : ds.all (fun d => match d with | .ro _ => false | _ => true) = true) : DDs H vs ds := by
  induction h with
  | nil => exact .nil
  | @cons v vs d ds h _ ih =>
    rw [List.all_cons, Bool.and_eq_true] at n
    refine .cons ?_ (ih n.2)
    rcases h with ⟨_, _, rfl, _⟩ | h
    · cases n.1
    · exact h
def noRo (ds : List D) : Bool := ds.all (fun d => match d with | .ro _ => false | _ => true)
def dTup (ds : Ev → Option (List D × Ev)) : Ev → Option (D × Ev) := fun e => match ds e with
  | some (xs, e1) => if noRo xs && decide (xs.length ≤ sizeLine) then some (.tup xs, e1) else none
  | none => none
def dLst (ds : Ev → Option (List D × Ev)) : Ev → Option (D × Ev) := fun e => match ds e with
  | some (xs, e1) => if noRo xs && decide (xs.length ≤ sizeLine) then some (.lst xs, e1) else none
  | none => none
theorem same_new' {H : Hp} {p : Addr} (h : H p = none) (o : HO) : Same H (upd H p o) := fun b u e => by rw [upd_ne (ne_of_none e h)]; exact e
theorem gr_new {K : PySem.W.Frag} {H : Hp} {T : Addr → Prop} {p : Addr} {o : HO} {d : D} (hp : H p = none) (hf : ∀ x u, o ≠ .frz x u) (h : ∀ H', Same (Res T H) H' → H' p = some o → DD H' (.ref p) d) : Gr K H T (upd H p o) (fun b => T b ∨ b = p) (.ref p) d := by
  refine ⟨same_new' hp o, .inr (h _ (res_mono fun b u tb eb => ⟨.inl tb, by rw [upd_ne (ne_of_none eb hp)]; exact eb⟩) (by rw [res_in (.inr rfl)]; exact upd_same)), fun b tb => ?_⟩
  rcases tb with tb | rfl
  · exact .inl tb
  · exact .inr ⟨hp, by rw [upd_same]; exact fun z => (nomatch z), fun x u z => by rw [upd_same] at z; exact hf x u (Option.some.inj z)⟩
theorem ve_tup {x1} (h : VA X F R NM es ds As M) : VE X F R NM (.Tuple es x1 pos) (dTup ds) As.flatten M := by
  obtain ⟨t, p, s⟩ := h.ex
  refine ⟨_, pe_tup p, fun PH hP σ H e S Q d e' rr hd q => ?_⟩
  unfold dTup at hd
  split at hd
  · rename_i xs e1 hx
    split at hd
    · rename_i hc
      cases hd
      rw [Bool.and_eq_true, decide_eq_true_eq] at hc
      refine s PH hP σ H e S _ _ _ rr hx fun vs H1 S1 Ts st1 r1 tm1 => ?_
      obtain ⟨k1, k2, k3⟩ := tm1.all
      have k4 := k1.dds hc.1
      refine ⟨by rw [k4.length]; exact hc.2, fun p hp => ?_⟩
      have g : Gr X.K H1 (allT Ts) (upd H1 p (.tup vs)) (fun b => allT Ts b ∨ b = p) (.ref p) (.tup xs) := gr_new hp (fun _ _ z => nomatch z) fun H' sm hp' => .tup hp' (k4.mono sm)
      refine q _ _ S1 _ ?_ (r1.same g.same) (g.tm r1 st1.thr k2 k3)
      have := st1.trans (Stp.of_same (S := S1) g.same)
      rw [List.append_nil] at this; exact this
    · cases hd
  · cases hd
theorem ve_lst (h : VA X F R NM es ds As M) : VE X F R NM (.List es pos) (dLst ds) As.flatten M := by
  obtain ⟨t, p, s⟩ := h.ex
  refine ⟨_, pe_lst p, fun PH hP σ H e S Q d e' rr hd q => ?_⟩
  unfold dLst at hd
  split at hd
  · rename_i xs e1 hx
    split at hd
    · rename_i hc
      cases hd
      rw [Bool.and_eq_true, decide_eq_true_eq] at hc
      refine s PH hP σ H e S _ _ _ rr hx fun vs H1 S1 Ts st1 r1 tm1 => ?_
      obtain ⟨k1, k2, k3⟩ := tm1.all
      have k4 := k1.dds hc.1
      refine ⟨by rw [k4.length]; exact hc.2, fun p hp => ?_⟩
      have g : Gr X.K H1 (allT Ts) (upd H1 p (.lst vs)) (fun b => allT Ts b ∨ b = p) (.ref p) (.lst xs) := gr_new hp (fun _ _ z => nomatch z) fun H' sm hp' => .lst hp' (k4.mono sm)
      refine q _ _ S1 _ ?_ (r1.same g.same) (g.tm r1 st1.thr k2 k3)
      have := st1.trans (Stp.of_same (S := S1) g.same)
      rw [List.append_nil] at this; exact this
    · cases hd
  · cases hd
theorem ve_callB_s {x : Str} {id : String} {p : Pos} {r : List V → Hp → VK → Prop} {pr : List D → Option D} (hc : CallR X (.builtin id) r) (hp : PsL X.K r pr) (hg : Gl X x) (hm : X.mg x = none) (hv : bootBuiltins x = some (.builtin id)) (ha : VA X F R NM (a :: es) ds As M) (hn : x ≠ "__name__" := by decide) (hdb : (x == ("__debug__" : Str)) = false := by decide)
    (he : starEach (a :: es) X.env = (false, eval a X.env) :: starEach es X.env := by rfl) (hpl : (backTo pos (starEach es X.env)).any (·.1) = false := by rfl) : VE X F R NM (.Call (.Name x p) (a :: es) [] pos) (dL pr ds) [] M := by
  obtain ⟨t, q, s⟩ := ha.ex
  exact ⟨_, pe_callB hc hg hm hv q hn hdb he hpl, se_sL hp s⟩
theorem ve_callT_s {x : Str} {id : String} {p : Pos} {r : List V → Hp → VK → Prop} {pr : List D → Option D} (hc : CallR X (.type id) r) (hp : PsL X.K r pr) (hg : Gl X x) (hm : X.mg x = none) (hv : bootBuiltins x = some (.type id)) (ha : VA X F R NM (a :: es) ds As M) (hn : x ≠ "__name__" := by decide) (hdb : (x == ("__debug__" : Str)) = false := by decide)
    (he : starEach (a :: es) X.env = (false, eval a X.env) :: starEach es X.env := by rfl) (hpl : (backTo pos (starEach es X.env)).any (·.1) = false := by rfl) : VE X F R NM (.Call (.Name x p) (a :: es) [] pos) (dL pr ds) [] M := by
  obtain ⟨t, q, s⟩ := ha.ex
  exact ⟨_, pe_callTy hc hg hm hv q hn hdb he hpl, se_sL hp s⟩
theorem ve_callT_g {x : Str} {id : String} {p : Pos} {r : List V → Hp → VK → Prop} {pr : List D → Option D} (hc : CallR X (.type id) r) (hp : PgL X.K r pr) (hg : Gl X x) (hm : X.mg x = none) (hv : bootBuiltins x = some (.type id)) (ha : VA X F R NM (a :: es) ds As M) (hn : x ≠ "__name__" := by decide) (hdb : (x == ("__debug__" : Str)) = false := by decide)
    (he : starEach (a :: es) X.env = (false, eval a X.env) :: starEach es X.env := by rfl) (hpl : (backTo pos (starEach es X.env)).any (·.1) = false := by rfl) : VE X F R NM (.Call (.Name x p) (a :: es) [] pos) (dL pr ds) As.flatten M := by
  obtain ⟨t, q, s⟩ := ha.ex
  exact ⟨_, pe_callTy hc hg hm hv q hn hdb he hpl, se_gL hp s⟩
end
end VD

set_option Elab.async false
set_option linter.all false
set_option maxRecDepth 100000
set_option maxHeartbeats 4000000
namespace VD
open PySem PySem.Spec L2 MC
open PyProof.Rows hiding St

def mutOk (F : Fx) (NM : List Nat) (R : Rl) (x : Nat) : Bool :=
  decide (x < F.nl) && ((List.range F.np).all fun p => F.mu.contains p || !rel R x (F.nl + p)) && NM.all fun p => !rel R x p
theorem mutOk_out' {F : Fx} {NM : List Nat} {R : Rl} {x : Nat} (h : mutOk F NM R x = true) : x < F.nl ∧ (∀ p, p < F.np → p ∉ F.mu → rel R x (F.nl + p) = false) ∧ ∀ p ∈ NM, rel R x p = false := by
  unfold mutOk at h
  simp only [Bool.and_eq_true, decide_eq_true_eq, List.all_eq_true, List.mem_range, Bool.or_eq_true, List.contains_iff_mem, Bool.not_eq_true'] at h
  obtain ⟨⟨h1, h2⟩, h3⟩ := h
  exact ⟨h1, fun p hp hm => (h2 p hp).resolve_left hm, h3⟩
theorem mutOk_out {F : Fx} {PH : List Ph} {R : Rl} {x : Nat} (h : mutOk F (PH.map (·.ix)) R x = true) : x < F.nl ∧ (∀ p, p < F.np → p ∉ F.mu → rel R x (F.nl + p) = false) ∧ ∀ p ∈ PH, rel R x p.ix = false := by
  obtain ⟨a, b, c⟩ := mutOk_out' h
  exact ⟨a, b, fun p hp => c _ (List.mem_map_of_mem hp)⟩
def killL : List Nat → Ev → Ev
  | [], e => e
  | k :: ks, e => (killL ks e).set k none
theorem killL_len (ks : List Nat) (e : Ev) : (killL ks e).length = e.length := by
  induction ks with
  | nil => rfl
  | cons k ks ih => unfold killL; rw [List.length_set, ih]
theorem killL_get {ks : List Nat} {e : Ev} {i : Nat} {d : D} (h : (killL ks e)[i]? = some (some d)) : e[i]? = some (some d) ∧ i ∉ ks := by
  induction ks with
  | nil => exact ⟨h, by simp⟩
  | cons k ks ih =>
    unfold killL at h
    by_cases hk : k = i
    · subst hk
      by_cases hl : k < (killL ks e).length
      · rw [List.getElem?_set_self hl] at h; cases h
      · rw [List.getElem?_eq_none (by simpa using hl)] at h; cases h
    · rw [List.getElem?_set_ne hk] at h
      obtain ⟨h1, h2⟩ := ih h
      exact ⟨h1, by simp only [List.mem_cons, not_or]; exact ⟨fun z => hk z.symm, h2⟩⟩
def killOk (F : Fx) (R : Rl) (x : Nat) (ks : List Nat) : Bool := (List.range F.nl).all fun j => j == x || !rel R x j || ks.contains j
theorem killOk_out {F : Fx} {R : Rl} {x : Nat} {ks : List Nat} (h : killOk F R x ks = true) {j : Nat} (hj : j < F.nl) (hx : j ≠ x) (hk : j ∉ ks) : rel R x j = false := by
  unfold killOk at h
  have := List.all_eq_true.mp h j (List.mem_range.mpr hj)
  simp only [Bool.or_eq_true, beq_iff_eq, Bool.not_eq_true', List.contains_iff_mem] at this
  rcases this with (h | h) | h
  · exact absurd h hx
  · exact h
  · exact absurd h hk

section
variable {K : PySem.W.Frag} {F : Fx} {R R' : Rl} {PH : List Ph} {H H' : Hp} {σ : St} {e e' : Ev} {S S' : FPs}
theorem Rp.change {Mx : List Nat} (r : Rp K F R PH H σ e S) (st : Stq Mx H S H' S') (hl : e'.length = e.length)
    (rep' : ∀ m ∈ Mx, ∀ d, e'[m]? = some (some d) → ∃ v, σ[m]? = some (some v) ∧ RV K (Res (S' m) H') v d)
    (oth' : ∀ j d, j ∉ Mx → e'[j]? = some (some d) → e[j]? = some (some d) ∧ ∀ m ∈ Mx, rel R j m = false)
    (thr' : ∀ m ∈ Mx, ∀ b, S' m b → H' b ≠ none) (nf : ∀ m ∈ Mx, ∀ b, S' m b → NFrz H' b)
    (own : ∀ m ∈ Mx, ∀ b, S' m b → S m b ∨ (F.H0 b = none ∧ ∀ k, k ∉ Mx → ¬ S k b) ∨ Imm H' b)
    (dis' : ∀ m ∈ Mx, ∀ m' ∈ Mx, m ≠ m' → rel R m m' = false → ∀ b, S' m b → S' m' b → Imm H' b) (ok : ∀ m ∈ Mx, mutOk F (PH.map (·.ix)) R m = true) : Rp K F R PH H' σ e' S' := by
  have np : ∀ p, p < F.np → F.nl + p ∉ Mx := fun p hp z => by have := (mutOk_out (ok _ z)).1; omega
  have keepS : ∀ k, k ∉ Mx → (∀ m ∈ Mx, rel R k m = false) → ∀ b o, S k b → H b = some o → H' b = some o := fun k hk hr b o sb eb => by
    by_cases hi : Imm H b
    · exact st.keep b o eb (.inl hi)
    · exact st.keep b o eb (.inr fun m hm q => hi (r.dis k m b (fun z => hk (z ▸ hm)) (hr m hm) sb q))
  have frm' : ∀ b o, F.H0 b = some o → (Imm F.H0 b ∨ ∀ m ∈ F.mu, ¬ F.S0 m b) → H b = some o → ∀ m ∈ Mx, ¬ Imm H b → ¬ S m b := fun b o e0 k eb m hm hi q => by
    rcases r.prv m b q with z | z | ⟨p, hp, z⟩
    · exact hi z
    · rw [e0] at z; cases z
    · by_cases hmu : p ∈ F.mu
      · rcases k with k | k
        · exact hi (k.imp fun xs q => by rw [e0] at q; cases q; exact eb)
        · exact k p hmu z
      · obtain ⟨m1, m2, _⟩ := mutOk_out (ok m hm)
        refine hi (r.dis m (F.nl + p) b (by omega) (m2 p hp hmu) q ?_)
        rw [r.phm p hp hmu]; exact z
  refine ⟨hl.trans r.len, r.lenS, fun i d q => ?_, fun i j b h1 h2 h3 h4 => ?_, fun i b q => ?_, fun b o q1 q2 => ?_, fun b q => st.thr b (r.dom b q), fun i b q => ?_, fun p hp hm => ?_, fun i b q => ?_, fun p hp => ?_, r.mup, fun m hm b q => ?_, fun m hm b q => st.grow m b (r.mgr m hm b q), fun k b h1 h2 => by
    rw [st.oth k (fun z => by have := (mutOk_out (ok k z)).1; omega)]; exact r.un k b h1 h2⟩
  · by_cases hi : i ∈ Mx
    · exact rep' i hi d q
    · obtain ⟨q1, q2⟩ := oth' i d hi q
      obtain ⟨v, q3, q4⟩ := r.rep i d q1
      refine ⟨v, q3, ?_⟩
      rw [st.oth i hi]
      exact q4.mono (res_mono fun b o sb eb => ⟨sb, keepS i hi q2 b o sb eb⟩)
  · -- disjoint
    have one : ∀ m j b, m ∈ Mx → j ∉ Mx → rel R m j = false → S' m b → S' j b → Imm H' b := fun m j b hm hj hr q1 q2 => by
      rw [st.oth j hj] at q2
      rcases own m hm b q1 with z | ⟨_, z⟩ | z
      · exact st.imm (r.dis m j b (fun z => hj (z ▸ hm)) hr z q2)
      · exact absurd q2 (z j hj)
      · exact z
    by_cases hi : i ∈ Mx
    · by_cases hj : j ∈ Mx
      · exact dis' i hi j hj h1 h2 b h3 h4
      · exact one i j b hi hj h2 h3 h4
    · by_cases hj : j ∈ Mx
      · exact one j i b hj hi (by rw [rel_comm]; exact h2) h4 h3
      · rw [st.oth i hi] at h3; rw [st.oth j hj] at h4
        exact st.imm (r.dis i j b h1 h2 h3 h4)
  · by_cases hi : i ∈ Mx
    · exact thr' i hi b q
    · rw [st.oth i hi] at q; exact st.thr b (r.thr i b q)
  · refine (r.frm b o q1 q2).imp_left fun eb => ?_
    by_cases hi : Imm H b
    · exact st.keep b o eb (.inl hi)
    · exact st.keep b o eb (.inr fun m hm => frm' b o q1 q2 eb m hm hi)
  · by_cases hi : i ∈ Mx
    · rcases own i hi b q with z | ⟨z, _⟩ | z
      · exact (r.prv i b z).imp_left st.imm
      · exact .inr (.inl z)
      · exact .inl z
    · rw [st.oth i hi] at q; exact (r.prv i b q).imp_left st.imm
  · rw [st.oth _ (np p hp)]; exact r.phm p hp hm
  · by_cases hi : i ∈ Mx
    · exact .inl (nf i hi b q)
    · have q0 := q
      rw [st.oth i hi] at q
      rcases r.fz i b q with z | ⟨p, hp, hm, z⟩ | ⟨p, hp, z⟩
      · by_cases hx : ∃ m ∈ Mx, S' m b
        · obtain ⟨m, hm, hb⟩ := hx
          exact .inl (nf m hm b hb)
        · refine .inl fun o u w => ?_
          cases eb : H b with
          | none => exact r.thr i b q eb
          | some o' =>
            have := st.keep b o' eb (.inr fun m hm s => hx ⟨m, hm, st.grow m b s⟩)
            rw [this] at w; exact z o u (eb.trans w)
      · exact .inr (.inl ⟨p, hp, hm, st.grow _ b z⟩)
      · exact .inr (.inr ⟨p, hp, z⟩)
  · obtain ⟨l, q1, q2⟩ := r.ph p hp
    have hn : p.ix ∉ Mx := fun z => by have := (mutOk_out (ok _ z)).1; omega
    have hr : ∀ m ∈ Mx, rel R p.ix m = false := fun m hm => by rw [rel_comm]; exact (mutOk_out (ok m hm)).2.2 p hp
    refine ⟨l, ?_, fun a o z => ⟨st.grow _ a (q2 a o z).1, keepS p.ix hn hr a o (q2 a o z).1 (q2 a o z).2⟩⟩
    rw [st.oth _ hn]
    exact q1.mono (res_mono fun b o sb eb => ⟨sb, keepS p.ix hn hr b o sb eb⟩)
  · by_cases hi : m ∈ Mx
    · rcases own m hi b q with z | ⟨z, _⟩ | z
      · exact (r.mus m hm b z).imp_left st.imm
      · exact .inr (.inl z)
      · exact .inl z
    · rw [st.oth m hi] at q; exact (r.mus m hm b q).imp_left st.imm
def addS (S : FPs) (x : Nat) (T : Addr → Prop) : FPs := fun k b => S k b ∨ (k = x ∧ T b)
theorem addS_ne {S : FPs} {x k : Nat} {T : Addr → Prop} (h : k ≠ x) : addS S x T k = S k := by
  funext b; unfold addS; simp [h]
theorem addS_eq {S : FPs} {x : Nat} {T : Addr → Prop} : addS S x T x = fun b => S x b ∨ T b := by
  funext b; unfold addS; simp
theorem Rp.mut {x : Nat} {a : Addr} {u u' : HO} {d' : D} {T : Addr → Prop} {ks : List Nat} (r : Rp K F R PH H σ e S) (ha : σ[x]? = some (some (.ref a))) (hS : S x a) (hu : H a = some u) (hm : ∀ xs, u ≠ .tup xs)
    (hsm : ∀ b o, b ≠ a → H b = some o → H' b = some o) (hu' : H' a = some u') (hf : ∀ o w, u' ≠ .frz o w)
    (hT : ∀ b, T b → H' b ≠ none ∧ NFrz H' b ∧ (Imm H' b ∨ (F.H0 b = none ∧ ∀ k, ¬ S k b))) (hd : RV K (Res (addS S x T x) H') (.ref a) d') (ok : mutOk F (PH.map (·.ix)) R x = true) (hk : killOk F R x ks = true) :
    Rp K F R PH H' σ ((killL ks e).set x (some d')) (addS S x T) ∧ Stq [x] H S H' (addS S x T) := by
  obtain ⟨m1, m2, m3⟩ := mutOk_out ok
  have na : ¬ Imm H a := fun ⟨xs, z⟩ => by rw [hu] at z; exact hm xs (Option.some.inj z)
  have st : Stq [x] H S H' (addS S x T) := by
    refine ⟨fun b o eb k => ?_, fun b hb => ?_, fun k hk => addS_ne (by simpa using hk), fun k b h => .inl h⟩
    · by_cases hb : b = a
      · subst hb
        rcases k with k | k
        · exact absurd k na
        · exact absurd hS (k x (by simp))
      · exact hsm b o hb eb
    · by_cases hb' : b = a
      · subst hb'; rw [hu']; exact fun z => nomatch z
      · cases eb : H b with
        | none => exact absurd eb hb
        | some o => rw [hsm b o hb' eb]; exact fun z => nomatch z
  refine ⟨?_, st⟩
  have hx : x < (killL ks e).length := by rw [killL_len, r.len]; exact m1
  have nfa : NFrz H' a := fun o w z => by rw [hu'] at z; exact hf o w (Option.some.inj z)
  refine r.change st (by rw [List.length_set, killL_len]) (fun m hm d q => ?_) (fun j d hj q => ?_) (fun m hm b q => ?_) (fun m hm b q => ?_) (fun m hm b q => ?_) (fun m hm m' hm' n => ?_) (fun m hm => ?_)
  · have : m = x := by simpa using hm
    subst this
    rw [List.getElem?_set_self hx] at q
    cases q
    exact ⟨_, ha, hd⟩
  · have hj : j ≠ x := by simpa using hj
    rw [List.getElem?_set_ne (Ne.symm hj)] at q
    obtain ⟨q1, q2⟩ := killL_get q
    refine ⟨q1, fun m hm => ?_⟩
    have : m = x := by simpa using hm
    subst this
    have hjl : j < F.nl := by rw [← r.len]; exact (List.getElem?_eq_some_iff.mp q1).1
    rw [rel_comm]; exact killOk_out hk hjl hj q2
  · have : m = x := by simpa using hm
    subst this
    rw [addS_eq] at q
    rcases q with q | q
    · exact st.thr b (r.thr m b q)
    · exact (hT b q).1
  · have : m = x := by simpa using hm
    subst this
    rw [addS_eq] at q
    rcases q with q | q
    · by_cases hb : b = a
      · subst hb; exact nfa
      · have nz : NFrz H b := by
          rcases r.fz m b q with z | ⟨p, hp, hpm, z⟩ | ⟨p, hp, o, u, z⟩
          · exact z
          · exact (r.dis m (F.nl + p) b (by omega) (m2 p hp hpm) q z).nfrz
          · have := (r.ph p hp).1
            exact (r.dis m p.ix b (by omega) (m3 p hp) q ((r.ph p hp).2.2 _ _ z).1).nfrz
        intro o w z
        cases eb : H b with
        | none => exact r.thr m b q eb
        | some o' =>
          rw [hsm b o' hb eb] at z; exact nz o w (eb.trans z)
    · exact (hT b q).2.1
  · have : m = x := by simpa using hm
    subst this
    rw [addS_eq] at q
    rcases q with q | q
    · exact .inl q
    · rcases (hT b q).2.2 with z | ⟨z1, z2⟩
      · exact .inr (.inr z)
      · exact .inr (.inl ⟨z1, fun k _ => z2 k⟩)
  · have h1 : m = x := by simpa using hm
    have h2 : m' = x := by simpa using hm'
    exact absurd (h1.trans h2.symm) n
  · have : m = x := by simpa using hm
    subst this
    exact ok
theorem Stp.more {M : List Nat} {Hs : Hp} {S0 : FPs} {x : Nat} {T : Addr → Prop} (a : Stp M Hs S0 H S) (c : Stq [x] H S H' (addS S x T)) (h : ∀ b, T b → Imm H' b ∨ Hs b = none) : Stp (M ++ [x]) Hs S0 H' (addS S x T) where
  keep := fun b o e k => by
    rcases k with k | k
    · exact c.keep b o (a.keep b o e (.inl k)) (.inl (a.imm k))
    · have e1 := a.keep b o e (.inr fun m hm => k m (List.mem_append_left _ hm))
      by_cases hi : Imm H b
      · exact c.keep b o e1 (.inl hi)
      · refine c.keep b o e1 (.inr fun m hm q => ?_)
        rcases a.new m b q with q | q | q
        · exact k m (List.mem_append_right _ hm) q
        · rw [e] at q; cases q
        · exact hi q
  thr := fun b h => c.thr b (a.thr b h)
  oth := fun k hk => by
    have h1 : k ∉ M := fun z => hk (List.mem_append_left _ z)
    have h2 : k ∉ [x] := fun z => hk (List.mem_append_right _ z)
    rw [c.oth k h2, a.oth k h1]
  grow := fun k b h => c.grow k b (a.grow k b h)
  new := fun k b q => by
    rcases q with q | ⟨_, q⟩
    · rcases a.new k b q with q | q | q
      · exact .inl q
      · exact .inr (.inl q)
      · exact .inr (.inr (c.imm q))
    · rcases h b q with z | z
      · exact .inr (.inr z)
      · exact .inr (.inl z)
end

def PmL (K : PySem.W.Frag) (r : V → List V → Hp → VK → Prop) (p : List D → List D → Option (D × List D)) : Prop :=
  ∀ (H : Hp) (T U : Addr → Prop) (a : Addr) (xs : List V) (ds : List D) (vs : List V) (es : List D) (res : D) (ds' : List D) (Q : VK), H a = some (.lst xs) → DDs (Res T H) xs ds → RVs K (Res U H) vs es → p ds es = some (res, ds') →
    (∀ v xs', DD (Res (fun b => T b ∨ U b) H) v res → DDs (Res (fun b => T b ∨ U b) H) xs' ds' → Q v (upd H a (.lst xs'))) → r (.ref a) vs H Q
def dAftL (p : List D → List D → Option (D × List D)) (x : Nat) (ks : List Nat) : List D × Ev → Option (D × Ev) := fun w => match w.2[x]? with
  | some (some (.lst xs)) => match p xs w.1 with
    | some (res, xs') => some (res, (killL ks w.2).set x (some (.lst xs')))
    | none => none
  | _ => none
def dMutL (p : List D → List D → Option (D × List D)) (x : Nat) (ks : List Nat) (ds : Ev → Option (List D × Ev)) : Ev → Option (D × Ev) := fun e => match e[x]? with
  | some (some (.lst _)) => (ds e).bind (dAftL p x ks)
  | _ => none
section
variable {K : PySem.W.Frag} {F : Fx} {R : Rl} {PH : List Ph} {H : Hp} {σ : St} {e : Ev} {S : FPs} {x : Nat} {ks M : List Nat} {ds : Ev → Option (List D × Ev)} {As : List (List Nat)}
theorem Rp.own (r : Rp K F R PH H σ e S) (ok : mutOk F (PH.map (·.ix)) R x = true) {a : Addr} {u : HO} (hS : S x a) (h : Rd H a u) : H a = some u := by
  obtain ⟨m1, m2, m3⟩ := mutOk_out ok
  rcases h with h | ⟨o, h⟩
  · exact h
  · exfalso
    rcases r.fz x a hS with z | ⟨p, hp, hpm, z⟩ | ⟨p, hp, o, u, z⟩
    · exact z _ _ h
    · exact (r.dis x (F.nl + p) a (by omega) (m2 p hp hpm) hS z).nfrz _ _ h
    · have := (r.ph p hp).1
      exact (r.dis x p.ix a (by omega) (m3 p hp) hS ((r.ph p hp).2.2 _ _ z).1).nfrz _ _ h
theorem Rp.ownL (r : Rp K F R PH H σ e S) (ok : mutOk F (PH.map (·.ix)) R x = true) {xs : List D} (h : e[x]? = some (some (.lst xs))) : ∃ a vs, σ[x]? = some (some (.ref a)) ∧ S x a ∧ H a = some (.lst vs) ∧ DDs (Res (fun b => S x b ∧ b ≠ a) H) vs xs := by
  obtain ⟨v, h1, h2⟩ := r.rep x _ h
  rcases h2 with ⟨_, _, z, _⟩ | h2
  · cases z
  · cases h2 with
    | @lst a vs _ hr hs =>
      obtain ⟨q1, q2⟩ := res_some hr
      exact ⟨a, vs, h1, q1, q2, DD.items hr hs⟩
theorem Rp.ownK (r : Rp K F R PH H σ e S) (ok : mutOk F (PH.map (·.ix)) R x = true) {xs : List (Key × D)} (h : e[x]? = some (some (.dct xs))) : ∃ a vs, σ[x]? = some (some (.ref a)) ∧ S x a ∧ H a = some (.dK vs) ∧ DKs (Res (fun b => S x b ∧ b ≠ a) H) vs xs := by
  obtain ⟨v, h1, h2⟩ := r.rep x _ h
  rcases h2 with ⟨_, _, z, _⟩ | h2
  · cases z
  · cases h2 with
    | @dct a vs _ hr hs =>
      obtain ⟨q1, q2⟩ := rd_res hr
      exact ⟨a, vs, h1, q1, r.own ok q1 q2, DD.entries hr hs⟩
theorem nfrz_keep {H : Hp} {a b : Addr} {o : HO} (h : NFrz H b) (hf : ∀ x u, o ≠ .frz x u) : NFrz (upd H a o) b := fun x u z => by
  by_cases hb : b = a
  · subst hb; rw [upd_same] at z; exact hf x u (Option.some.inj z)
  · rw [upd_ne hb] at z; exact h x u z
theorem thr_keep {H : Hp} {a b : Addr} {o : HO} (h : H b ≠ none) : upd H a o b ≠ none := by
  by_cases hb : b = a
  · subst hb; rw [upd_same]; exact fun z => nomatch z
  · rw [upd_ne hb]; exact h
theorem mut_end {Hs : Hp} {S0 : FPs} {a : Addr} {o o' : HO} {d res : D} {v : V} {T : Addr → Prop} {Q : VK} (r : Rp K F R PH H σ e S) (st0 : Stp M Hs S0 H S) (ok : mutOk F (PH.map (·.ix)) R x = true) (hk : killOk F R x ks = true) (ha : σ[x]? = some (some (.ref a))) (hS : S x a) (hu : H a = some o)
    (hn : ∀ xs, o ≠ .tup xs) (hf : ∀ y u, o' ≠ .frz y u) (hT1 : ∀ b, T b → H b ≠ none) (hT2 : ∀ b, T b → Imm H b ∨ (Hs b = none ∧ (∀ k, ¬ S k b) ∧ NFrz H b)) (hT0 : ∀ b, F.H0 b ≠ none → Hs b ≠ none) (hd : DD (Res (fun b => S x b ∨ T b) (upd H a o')) (.ref a) d)
    (hv : DD (Res (fun b => (S x b ∧ b ≠ a) ∨ T b) H) v res) (q : ∀ H' S' U, Stp (M ++ [x]) Hs S0 H' S' → Rp K F R PH H' σ ((killL ks e).set x (some d)) S' → Tm K Hs H' S' [x] v res U → Q v H') : Q v (upd H a o') := by
  have na : ¬ Imm H a := fun ⟨xs, z⟩ => by rw [hu] at z; exact hn xs (Option.some.inj z)
  have hTa : ¬ T a := fun z => (hT2 a z).elim na fun w => w.2.1 x hS
  have immK : ∀ b, Imm H b → Imm (upd H a o') b := fun b h => h.imp fun xs z => by
    have hne : b ≠ a := fun w => na ⟨xs, by rw [← w]; exact z⟩
    rw [upd_ne hne]; exact z
  have h0 : ∀ b, Hs b = none → F.H0 b = none := fun b z => by
    cases w : F.H0 b with
    | none => rfl
    | some y => exact absurd z (hT0 b (by rw [w]; exact fun q => nomatch q))
  have hT : ∀ b, T b → upd H a o' b ≠ none ∧ NFrz (upd H a o') b ∧ (Imm (upd H a o') b ∨ (F.H0 b = none ∧ ∀ k, ¬ S k b)) := fun b tb => by
    refine ⟨thr_keep (hT1 b tb), ?_, ?_⟩
    · rcases hT2 b tb with z | z
      · exact nfrz_keep z.nfrz hf
      · exact nfrz_keep z.2.2 hf
    · rcases hT2 b tb with z | z
      · exact .inl (immK b z)
      · exact .inr ⟨h0 b z.1, z.2.1⟩
  obtain ⟨r', st⟩ := r.mut (T := T) (H' := upd H a o') (u' := o') ha hS hu hn (fun b y hb e => by rw [upd_ne hb]; exact e) upd_same hf hT (.inr (by rw [addS_eq]; exact hd)) ok hk
  · refine q _ _ (fun b => (S x b ∧ b ≠ a) ∨ T b) (st0.more st fun b tb => (hT2 b tb).imp (immK b) fun w => w.1) r' ⟨.inr (hv.mono (res_mono fun b y w e => ⟨w, ?_⟩)), fun b w => ?_, fun b w => ?_⟩
    · rw [upd_ne (w.elim (fun z => z.2) fun z w => hTa (w ▸ z))]; exact e
    · rcases w with w | w
      · exact thr_keep (r.thr x b w.1)
      · exact thr_keep (hT1 b w)
    · rcases w with w | w
      · exact .inr (.inl ⟨x, by simp, .inl w.1⟩)
      · exact .inr (.inl ⟨x, by simp, .inr ⟨rfl, w⟩⟩)
theorem items_upd {T U : Addr → Prop} {a : Addr} {o : HO} (h : ∀ b, T b → b ≠ a ∧ U b) : Same (Res T H) (Res U (upd H a o)) := res_mono fun b y w e => ⟨(h b w).2, by rw [upd_ne (h b w).1]; exact e⟩
theorem aft_L {r : V → List V → Hp → VK → Prop} {p : List D → List D → Option (D × List D)} (hp : PmL K r p) {Hs : Hp} {S0 : FPs} {vs : List V} {es : List D} {Ts : List (Addr → Prop)} {Q : VK} {d : D} {e' : Ev} {v : V}
    (rr : Rp K F R PH H σ e S) (st : Stp M Hs S0 H S) (tm : TmL K Hs H S As vs es Ts) (h0 : ∀ b, F.H0 b ≠ none → Hs b ≠ none) (ok : mutOk F (PH.map (·.ix)) R x = true) (hk : killOk F R x ks = true) (hA : As.flatten = []) (hv : σ[x]? = some (some v)) (hd : dAftL p x ks (es, e) = some (d, e'))
    (q : ∀ v H' S' T, Stp (M ++ [x]) Hs S0 H' S' → Rp K F R PH H' σ e' S' → Tm K Hs H' S' [x] v d T → Q v H') : r v vs H Q := by
  unfold dAftL at hd
  split at hd
  · rename_i xs hx
    split at hd
    · rename_i res xs' hpr
      cases hd
      obtain ⟨a, ws, h1, h2, h3, h4⟩ := rr.ownL ok hx
      rw [h1] at hv; cases hv
      obtain ⟨k1, k2, k3⟩ := tm.all
      have k3' : ∀ b, allT Ts b → Imm H b ∨ (Hs b = none ∧ (∀ k, ¬ S k b) ∧ NFrz H b) := fun b tb => by
        rcases k3 b tb with z | ⟨k, z, _⟩ | z
        · exact .inl z
        · rw [hA] at z; cases z
        · exact .inr z
      have nta : ∀ b, ((S x b ∧ b ≠ a) ∨ allT Ts b) → b ≠ a ∧ (S x b ∨ allT Ts b) := fun b w => by
        rcases w with w | w
        · exact ⟨w.2, .inl w.1⟩
        · refine ⟨fun z => ?_, .inr w⟩
          subst z
          rcases k3' b w with ⟨ys, z⟩ | z
          · rw [h3] at z; cases z
          · exact z.2.1 x h2
      refine hp H (fun b => S x b ∧ b ≠ a) (allT Ts) a ws xs vs es _ _ Q h3 h4 k1 hpr fun v xs2 w1 w2 => ?_
      refine mut_end (T := allT Ts) rr st ok hk h1 h2 h3 (fun _ z => nomatch z) (fun _ _ z => nomatch z) k2 k3' h0 ?_ w1 fun H' S' U st' r' tm' => q v H' S' U st' r' tm'
      exact .lst (by rw [res_in (show S x a ∨ allT Ts a from .inl h2)]; exact upd_same) (w2.mono (items_upd nta))
    · cases hd
  · cases hd
theorem se_mutL {NM : List Nat} {t : TA} {r : V → List V → Hp → VK → Prop} {p : List D → List D → Option (D × List D)} (hp : PmL K r p) (ha : SA K F R NM t ds As M) (ok : mutOk F NM R x = true) (hk : killOk F R x ks = true) (hA : As.flatten = []) :
    SE K F R NM (tBM K "list" r (tVar x) t) (dMutL p x ks ds) [x] (M ++ [x]) := by
  intro PH hP σ H e S Q d e' rr hd q
  subst hP
  unfold dMutL at hd
  split at hd
  · rename_i ys hy
    obtain ⟨a, ws, h1, h2, h3, h4⟩ := rr.ownL ok hy
    obtain ⟨⟨es, e1⟩, hes, hd⟩ := Option.bind_eq_some_iff.mp hd
    exact ⟨.ref a, h1, .inl ⟨rfl, _, SqL.of h3⟩, ha PH rfl σ H e S _ _ _ rr hes fun vs H1 S1 Ts st1 r1 tm1 => aft_L hp r1 st1 tm1 rr.dom ok hk hA h1 hd q⟩
  · cases hd
end
end VD

set_option Elab.async false
set_option linter.all false
set_option maxRecDepth 100000
set_option maxHeartbeats 4000000
namespace VD
open PySem PySem.Spec L2 MC
open PyProof.Rows hiding St

def nb (R : Rl) (A : List Nat) : List Nat := R.filterMap fun p => if A.contains p.1 then some p.2 else if A.contains p.2 then some p.1 else none
def rset (R : Rl) (i : Nat) (A : List Nat) : Rl := (R.filter fun p => p.1 != i && p.2 != i) ++ (((A ++ nb R A).filter (· != i)).map fun j => (i, j))
def subR (R R' : Rl) : Bool := R.all fun p => rel R' p.1 p.2
theorem rel_mem {R : Rl} {i j : Nat} : rel R i j = true ↔ ((i, j) ∈ R ∨ (j, i) ∈ R) := by
  unfold rel
  rw [List.any_eq_true]
  constructor
  · rintro ⟨⟨a, b⟩, h, q⟩
    simp only [Bool.or_eq_true, Bool.and_eq_true, beq_iff_eq] at q
    rcases q with ⟨rfl, rfl⟩ | ⟨rfl, rfl⟩
    · exact .inl h
    · exact .inr h
  · rintro (h | h)
    · exact ⟨_, h, by simp⟩
    · exact ⟨_, h, by simp⟩
theorem subR_out {R R' : Rl} (h : subR R R' = true) {i j : Nat} (q : rel R' i j = false) : rel R i j = false := by
  cases e : rel R i j with
  | false => rfl
  | true =>
    unfold subR at h
    rw [List.all_eq_true] at h
    rcases rel_mem.mp e with z | z
    · have := h _ z; rw [q] at this; cases this
    · have := h _ z; rw [rel_comm, q] at this; cases this
theorem nb_mem {R : Rl} {A : List Nat} {a j : Nat} (ha : a ∈ A) (h : rel R a j = true) : j ∈ A ∨ j ∈ nb R A := by
  by_cases hj : j ∈ A
  · exact .inl hj
  · refine .inr ?_
    unfold nb
    rw [List.mem_filterMap]
    rcases rel_mem.mp h with z | z
    · exact ⟨_, z, by simp [ha]⟩
    · exact ⟨_, z, by simp [ha, hj]⟩
theorem rset_i {R : Rl} {i : Nat} {A : List Nat} {j : Nat} (hj : j ≠ i) (h : rel (rset R i A) i j = false) : j ∉ A ∧ ∀ a ∈ A, rel R a j = false := by
  have key : ∀ k ∈ A ++ nb R A, k ≠ i → rel (rset R i A) i k = true := fun k hk hi => rel_mem.mpr (.inl (by
    unfold rset
    refine List.mem_append_right _ (List.mem_map.mpr ⟨k, List.mem_filter.mpr ⟨hk, by simpa using hi⟩, rfl⟩)))
  refine ⟨fun z => ?_, fun a ha => ?_⟩
  · have := key j (List.mem_append_left _ z) hj
    rw [h] at this; cases this
  · cases e : rel R a j with
    | false => rfl
    | true =>
      have := key j (List.mem_append.mpr (nb_mem ha e)) hj
      rw [h] at this; cases this
theorem rset_o {R : Rl} {i : Nat} {A : List Nat} {j k : Nat} (hj : j ≠ i) (hk : k ≠ i) (h : rel (rset R i A) j k = false) : rel R j k = false := by
  cases e : rel R j k with
  | false => rfl
  | true =>
    have : rel (rset R i A) j k = true := by
      rw [rel_mem]
      unfold rset
      rcases rel_mem.mp e with z | z
      · exact .inl (List.mem_append_left _ (List.mem_filter.mpr ⟨z, by simp [hj, hk]⟩))
      · exact .inr (List.mem_append_left _ (List.mem_filter.mpr ⟨z, by simp [hj, hk]⟩))
    rw [h] at this; cases this

section
variable {K : PySem.W.Frag} {F : Fx} {R R' : Rl} {PH : List Ph} {H H' : Hp} {σ : St} {e e' : Ev} {S S' : FPs}
theorem Rp.weak (r : Rp K F R PH H σ e S) (h : subR R R' = true) : Rp K F R' PH H σ e S :=
  ⟨r.len, r.lenS, r.rep, fun i j b h1 h2 => r.dis i j b h1 (subR_out h h2), r.thr, r.frm, r.dom, r.prv, r.phm, r.fz, r.ph, r.mup, r.mus, r.mgr, r.un⟩
def setS (S : FPs) (i : Nat) (T : Addr → Prop) : FPs := fun k => if k = i then T else S k
theorem setS_eq {S : FPs} {i : Nat} {T : Addr → Prop} : setS S i T i = T := by unfold setS; rw [if_pos rfl]
theorem setS_ne {S : FPs} {i k : Nat} {T : Addr → Prop} (h : k ≠ i) : setS S i T k = S k := by unfold setS; rw [if_neg h]
theorem Rp.set {i : Nat} {A : List Nat} {v : V} {d : D} {T : Addr → Prop} {Hs : Hp} (r : Rp K F R PH H σ e S) (t : Tm K Hs H S A v d T) (h0 : ∀ b, F.H0 b ≠ none → Hs b ≠ none) (hi : i < F.nl) (hm : i ∉ F.mu) :
    Rp K F (rset R i A) PH H (σ.set i (some v)) (e.set i (some d)) (setS S i T) := by
  have h0' : ∀ b, Hs b = none → F.H0 b = none := fun b z => by
    cases w : F.H0 b with
    | none => rfl
    | some y => exact absurd z (h0 b (by rw [w]; exact fun q => nomatch q))
  have one : ∀ j b, j ≠ i → rel (rset R i A) i j = false → T b → S j b → Imm H b := fun j b hj hr tb sb => by
    obtain ⟨q1, q2⟩ := rset_i hj hr
    rcases t.prv b tb with z | ⟨k, hk, z⟩ | ⟨_, z, _⟩
    · exact z
    · exact r.dis k j b (fun w => q1 (w ▸ hk)) (q2 k hk) z sb
    · exact absurd sb (z j)
  refine ⟨by rw [List.length_set]; exact r.len, by rw [List.length_set]; exact r.lenS, fun j d' q => ?_, fun j k b h1 h2 h3 h4 => ?_, fun j b q => ?_, r.frm, r.dom, fun j b q => ?_, fun p hp hpm => ?_, fun j b q => ?_, fun p hp => ?_, fun m hm' => ?_, fun m hm' b q => ?_, fun m hm' b q => ?_, fun k b h1 h2 => by rw [setS_ne (by omega)]; exact r.un k b h1 h2⟩
  · by_cases hj : j = i
    · subst hj
      rw [List.getElem?_set_self (by rw [r.len]; exact hi)] at q
      cases q
      exact ⟨v, List.getElem?_set_self (by rw [r.lenS]; exact hi), by rw [setS_eq]; exact t.rv⟩
    · rw [List.getElem?_set_ne (Ne.symm hj)] at q
      obtain ⟨w, q1, q2⟩ := r.rep j d' q
      exact ⟨w, by rw [List.getElem?_set_ne (Ne.symm hj)]; exact q1, by rw [setS_ne hj]; exact q2⟩
  · by_cases hj : j = i
    · subst hj
      rw [setS_eq] at h3
      rw [setS_ne (Ne.symm h1)] at h4
      exact one k b (Ne.symm h1) h2 h3 h4
    · by_cases hk : k = i
      · subst hk
        rw [setS_eq] at h4
        rw [setS_ne hj] at h3
        exact one j b hj (by rw [rel_comm]; exact h2) h4 h3
      · rw [setS_ne hj] at h3; rw [setS_ne hk] at h4
        exact r.dis j k b h1 (rset_o hj hk h2) h3 h4
  · by_cases hj : j = i
    · subst hj; rw [setS_eq] at q; exact t.thr b q
    · rw [setS_ne hj] at q; exact r.thr j b q
  · by_cases hj : j = i
    · subst hj; rw [setS_eq] at q
      rcases t.prv b q with z | ⟨k, hk, z⟩ | ⟨z, _, _⟩
      · exact .inl z
      · exact r.prv k b z
      · exact .inr (.inl (h0' b z))
    · rw [setS_ne hj] at q; exact r.prv j b q
  · rw [setS_ne (by omega)]; exact r.phm p hp hpm
  · have sp : ∀ p, S (F.nl + p) b → setS S i T (F.nl + p) b := fun p z => by rw [setS_ne (by omega)]; exact z
    by_cases hj : j = i
    · subst hj; rw [setS_eq] at q
      rcases t.prv b q with z | ⟨k, hk, z⟩ | ⟨_, _, z⟩
      · exact .inl z.nfrz
      · rcases r.fz k b z with w | ⟨p, hp, hpm, w⟩ | w
        · exact .inl w
        · exact .inr (.inl ⟨p, hp, hpm, sp p w⟩)
        · exact .inr (.inr w)
      · exact .inl z
    · rw [setS_ne hj] at q
      rcases r.fz j b q with w | ⟨p, hp, hpm, w⟩ | w
      · exact .inl w
      · exact .inr (.inl ⟨p, hp, hpm, sp p w⟩)
      · exact .inr (.inr w)
  · obtain ⟨l, q⟩ := r.ph p hp
    rw [setS_ne (by omega)]; exact ⟨l, q⟩
  · rw [List.getElem?_set_ne (show i ≠ m from fun z => hm (by rw [z]; exact hm'))]; exact r.mup m hm'
  · rw [setS_ne (show m ≠ i from fun z => hm (by rw [← z]; exact hm'))] at q; exact r.mus m hm' b q
  · rw [setS_ne (show m ≠ i from fun z => hm (by rw [← z]; exact hm'))]; exact r.mgr m hm' b q
end

inductive Out where
  | nx (e : Ev) | rt (d : D) (e : Ev) | bk (e : Ev) | ct (e : Ev)
def Lkd (PH : List Ph) (b : Addr) : Prop := ∃ p ∈ PH, ∃ o u, (b, .frz o u) ∈ p.ob
structure Fin (K : PySem.W.Frag) (F : Fx) (PH : List Ph) (al : List Nat) (H : Hp) (S : FPs) (v : V) (d : D) (T : Addr → Prop) (e : Ev) : Prop where
  keep : ∀ b o, F.H0 b = some o → (Imm F.H0 b ∨ ∀ m ∈ F.mu, ¬ F.S0 m b) → Lk PH H b o
  dom : ∀ b, F.H0 b ≠ none → H b ≠ none
  rv : RV K (Res T H) v d
  thr : ∀ b, T b → H b ≠ none
  prv : ∀ b, T b → Imm H b ∨ (F.H0 b = none ∧ (∀ m ∈ F.mu, ¬ S m b) ∧ (NFrz H b ∨ Lkd PH b)) ∨ ∃ p ∈ al, p < F.np ∧ (p ∈ F.mu → S p b) ∧ (p ∉ F.mu → F.S0 p b)
  out : ∀ m ∈ F.mu, ∀ dm, e[m]? = some (some dm) → ∃ w, F.vs0[m]? = some w ∧ RV K (Res (S m) H) w dm
  mth : ∀ m ∈ F.mu, ∀ b, S m b → H b ≠ none ∧ NFrz H b ∧ (Imm H b ∨ F.H0 b = none ∨ F.S0 m b)
  mgr : ∀ m ∈ F.mu, ∀ b, F.S0 m b → S m b
  mdis : ∀ m ∈ F.mu, ∀ m' ∈ F.mu, m ≠ m' → ∀ b, S m b → S m' b → Imm H b
  lks : ∀ p ∈ PH, ∀ a o, (a, o) ∈ p.ob → H a = some o
def OK (K : PySem.W.Frag) (F : Fx) (PH : List Ph) (Rn Rb : Rl) (al : List Nat) (D : Ends) : Out → Prop
  | .nx e' => ∀ σ' H' S', Rp K F Rn PH H' σ' e' S' → D.nx σ' H'
  | .rt d e' => ∀ v H' S' T, Fin K F PH al H' S' v d T e' → D.rt v H'
  | .bk e' => ∀ σ' H' S', Rp K F Rb PH H' σ' e' S' → D.bk σ' H'
  | .ct e' => ∀ σ' H' S', Rp K F Rb PH H' σ' e' S' → D.ct σ' H'
def SS (K : PySem.W.Frag) (F : Fx) (R : Rl) (NM : List Nat) (Rn Rb : Rl) (al : List Nat) (t : TS) (den : Ev → Option Out) : Prop :=
  ∀ (PH : List Ph), PH.map (·.ix) = NM → ∀ (σ : St) (H : Hp) (e : Ev) (S : FPs) (D : Ends) (o : Out), Rp K F R PH H σ e S → den e = some o → OK K F PH Rn Rb al D o → t D σ H
structure VS (X : Cx) (F : Fx) (R : Rl) (NM : List Nat) (Rn Rb : Rl) (al : List Nat) (st : Stmt) (den : Ev → Option Out) : Prop where
  ex : ∃ t, PS X st t ∧ SS X.K F R NM Rn Rb al t den
structure VB (X : Cx) (F : Fx) (R : Rl) (NM : List Nat) (Rn Rb : Rl) (al : List Nat) (st : List Stmt) (den : Ev → Option Out) : Prop where
  ex : ∃ t, PSs X st t ∧ SS X.K F R NM Rn Rb al t den
section
variable {X : Cx} {F : Fx} {R Rn Rm Rb R1 R2 : Rl} {NM : List Nat} {al : List Nat} {st : Stmt} {rest : List Stmt} {a b : Expr} {pos : Pos} {da db : Ev → Option (D × Ev)} {dt : Ev → Option (Bool × Ev)} {ds du : Ev → Option Out} {A M : List Nat}
theorem SS.weak {K : PySem.W.Frag} {t : TS} (h : SS K F R NM Rn Rb al t ds) (w : subR Rn Rm = true) : SS K F R NM Rm Rb al t ds := fun PH hP σ H e S D o r hd q => h PH hP σ H e S D o r hd (by
  cases o with
  | nx e' => exact fun σ' H' S' r' => q σ' H' S' (r'.weak w)
  | rt d e' => exact q
  | bk e' => exact q
  | ct e' => exact q)
def sNil : Ev → Option Out := fun e => some (.nx e)
def sSeq (ds du : Ev → Option Out) : Ev → Option Out := fun e => match ds e with
  | some (.nx e') => du e'
  | o => o
theorem vb_nil : VB X F R NM R Rb al [] sNil := ⟨_, pss_nil, fun PH hP σ H e S D o r hd q => by cases hd; exact q σ H S r⟩
theorem vb_one (h : VS X F R NM Rn Rb al st ds) : VB X F R NM Rn Rb al [st] ds := by
  obtain ⟨t, p, s⟩ := h.ex
  exact ⟨_, pss_one p, s⟩
theorem vb_cons (h1 : VS X F R NM Rm Rb al st ds) (h2 : VB X F Rm NM Rn Rb al rest du) : VB X F R NM Rn Rb al (st :: rest) (sSeq ds du) := by
  obtain ⟨t1, p1, s1⟩ := h1.ex
  obtain ⟨t2, p2, s2⟩ := h2.ex
  refine ⟨_, pss_cons p1 p2, fun PH hP σ H e S D o r hd q => ?_⟩
  unfold sSeq at hd
  split at hd
  · rename_i e1 hx
    exact s1 PH hP σ H e S _ _ r hx fun σ' H' S' r' => s2 PH hP σ' H' e1 S' D o r' hd q
  · rename_i o' hx
    cases hd' : ds e with
    | none => rw [hd'] at hd; cases hd
    | some o1 =>
      rw [hd'] at hd
      cases hd
      refine s1 PH hP σ H e S _ _ r hd' ?_
      cases o with
      | nx e' => exact absurd hd' (hx e')
      | rt d e' => exact q
      | bk e' => exact q
      | ct e' => exact q
theorem vs_weak (h : VS X F R NM Rn Rb al st ds) (w : subR Rn Rm = true := by rfl) : VS X F R NM Rm Rb al st ds := by
  obtain ⟨t, p, s⟩ := h.ex
  exact ⟨_, p, s.weak w⟩
theorem vb_weak (h : VB X F R NM Rn Rb al rest ds) (w : subR Rn Rm = true := by rfl) : VB X F R NM Rm Rb al rest ds := by
  obtain ⟨t, p, s⟩ := h.ex
  exact ⟨_, p, s.weak w⟩
def sBk : Ev → Option Out := fun e => some (.bk e)
def sCt : Ev → Option Out := fun e => some (.ct e)
def sNo : Ev → Option Out := fun _ => none
theorem vb_never : VB X F R NM Rn Rb al rest sNo := ⟨_, pss_never, fun PH hP σ H e S D o r hd q => nomatch hd⟩
def sDo (da : Ev → Option (D × Ev)) : Ev → Option Out := fun e => match da e with | some (_, e') => some (.nx e') | none => none
theorem vs_expr (h : VE X F R NM a da A M) (hs : swapsWith a none pos.line X.env = pure false := by rfl) : VS X F R NM R Rb al (.Expr a pos) (sDo da) := by
  obtain ⟨t, p, s⟩ := h.ex
  refine ⟨_, ps_expr p hs, fun PH hP σ H e S D o r hd q => ?_⟩
  unfold sDo at hd
  split at hd
  · rename_i d e1 hx
    cases hd
    exact s PH hP σ H e S _ _ _ r hx fun v H' S' T st r' t => q σ H' S' r'
  · cases hd
def sSet (i : Nat) (da : Ev → Option (D × Ev)) : Ev → Option Out := fun e => match da e with | some (d, e') => some (.nx (e'.set i (some d))) | none => none
def setOk (F : Fx) (i : Nat) : Bool := decide (i < F.nl) && !F.mu.contains i
theorem setOk_out {F : Fx} {i : Nat} (h : setOk F i = true) : i < F.nl ∧ i ∉ F.mu := by
  unfold setOk at h
  simp only [Bool.and_eq_true, decide_eq_true_eq, Bool.not_eq_true', List.contains_eq_mem, decide_eq_false_iff_not] at h
  exact h
theorem ss_set {K : PySem.W.Frag} {i : Nat} {te : TE} (s : SE K F R NM te da A M) (hi : setOk F i = true) : SS K F R NM (rset R i A) Rb al (tAsg te (gName i)) (sSet i da) := by
  obtain ⟨h1, h2⟩ := setOk_out hi
  intro PH hP σ H e S D o r hd q
  unfold sSet at hd
  split at hd
  · rename_i d e1 hx
    cases hd
    exact s PH hP σ H e S _ _ _ r hx fun v H' S' T st r' t => q _ H' _ (r'.set t r.dom h1 h2)
  · cases hd
theorem vs_set (i : Nat) {x : Str} {pos' : Pos} (hN : X.N.Nodup) (h : VE X F R NM b da A M) (hi : X.N[i]? = some x := by rfl) (hx : Loc X.env.scope x := by first | exact Or.inl rfl | exact Or.inr rfl) (ok : setOk F i = true := by rfl) (hs : swapsWith b (some (.Name x pos')) pos.line X.env = pure false := by rfl)
    (hf : X.fn x = true ∨ X.env.scope.names.lookup x = some .local := by first | exact .inl rfl | exact .inr rfl | assumption) : VS X F R NM (rset R i A) Rb al (.Assign [.Name x pos'] b pos) (sSet i da) := by
  obtain ⟨t, p, s⟩ := h.ex
  exact ⟨_, ps_set hN hi hx p hs hf, ss_set s ok⟩
def sIf (dt : Ev → Option (Bool × Ev)) (ds du : Ev → Option Out) : Ev → Option Out := fun e => match dt e with | some (true, e') => ds e' | some (false, e') => du e' | none => none
theorem subR_left : subR R1 (R1 ++ R2) = true := by
  unfold subR; rw [List.all_eq_true]
  exact fun p hp => rel_mem.mpr (.inl (List.mem_append_left _ hp))
theorem subR_right : subR R2 (R1 ++ R2) = true := by
  unfold subR; rw [List.all_eq_true]
  exact fun p hp => rel_mem.mpr (.inl (List.mem_append_right _ hp))
theorem vs_if {ss us : List Stmt} (h : VT X F R NM a dt M) (h1 : VB X F R NM R1 Rb al ss ds) (h2 : VB X F R NM R2 Rb al us du) : VS X F R NM (R1 ++ R2) Rb al (.If a ss us pos) (sIf dt ds du) := by
  obtain ⟨t, p, s⟩ := h.ex
  obtain ⟨t1, p1, s1⟩ := h1.ex
  obtain ⟨t2, p2, s2⟩ := h2.ex
  have s1 := s1.weak (subR_left (R1 := R1) (R2 := R2))
  have s2 := s2.weak (subR_right (R1 := R1) (R2 := R2))
  refine ⟨_, ps_if p p1 p2, fun PH hP σ H e S D o r hd q => ?_⟩
  unfold sIf at hd
  split at hd
  · rename_i e1 hx
    refine s PH hP σ H e S _ _ _ r hx fun H1 S1 st1 r1 => ?_
    rw [if_pos rfl]
    exact s1 PH hP σ H1 e1 S1 D o r1 hd q
  · rename_i e1 hx
    refine s PH hP σ H e S _ _ _ r hx fun H1 S1 st1 r1 => ?_
    rw [if_neg Bool.false_ne_true]
    exact s2 PH hP σ H1 e1 S1 D o r1 hd q
  · cases hd
def retOk (F : Fx) (NM : List Nat) (R : Rl) (al A : List Nat) : Bool :=
  ((List.range F.np).all fun p => al.contains p || A.all fun k => k != (if F.mu.contains p then p else F.nl + p) && !rel R k (if F.mu.contains p then p else F.nl + p)) &&
  (F.mu.all fun m => decide (m < F.np) && mutOk F NM R m && F.mu.all fun m' => m == m' || !rel R m m') && al.all fun p => decide (p < F.np)
def sRt (da : Ev → Option (D × Ev)) : Ev → Option Out := fun e => match da e with | some (d, e') => some (.rt d e') | none => none
theorem Rp.fin {PH : List Ph} {K : PySem.W.Frag} {H Hs : Hp} {σ : St} {e : Ev} {S : FPs} {v : V} {d : D} {T : Addr → Prop} (r : Rp K F R PH H σ e S) (t : Tm K Hs H S A v d T) (h0 : ∀ b, F.H0 b ≠ none → Hs b ≠ none) (ok : retOk F (PH.map (·.ix)) R al A = true) : Fin K F PH al H S v d T e := by
  unfold retOk at ok
  simp only [Bool.and_eq_true, List.all_eq_true, List.mem_range, Bool.or_eq_true, List.contains_iff_mem, bne_iff_ne, ne_eq, Bool.not_eq_true', decide_eq_true_eq, beq_iff_eq] at ok
  obtain ⟨⟨ok1, ok2⟩, ok3⟩ := ok
  have h0' : ∀ b, Hs b = none → F.H0 b = none := fun b z => by
    cases w : F.H0 b with
    | none => rfl
    | some y => exact absurd z (h0 b (by rw [w]; exact fun q => nomatch q))
  refine ⟨r.frm, r.dom, t.rv, t.thr, fun b tb => ?_, fun m hm dm q => ?_, fun m hm b q => ?_, r.mgr, fun m hm m' hm' n b q1 q2 => r.dis m m' b n (((ok2 m hm).2 m' hm').resolve_left n) q1 q2, fun p hp a o z => ((r.ph p hp).2.2 a o z).2⟩
  · rcases t.prv b tb with z | ⟨k, hk, z⟩ | ⟨z1, z2, z3⟩
    · exact .inl z
    · by_cases hi : Imm H b
      · exact .inl hi
      -- some m in mu that has it is in al
      by_cases hm : ∃ m ∈ F.mu, S m b
      · obtain ⟨m, hm, sm⟩ := hm
        rcases ok1 m (ok2 m hm).1.1 with w | w
        · exact .inr (.inr ⟨m, w, (ok2 m hm).1.1, fun _ => sm, fun w => absurd hm w⟩)
        · have := w k hk
          rw [if_pos hm] at this
          exact absurd (r.dis k m b this.1 this.2 z sm) hi
      · rcases r.prv k b z with w | w | ⟨p, hp, w⟩
        · exact .inl w
        · by_cases hf : NFrz H b
          · exact .inr (.inl ⟨w, fun m hm' q => hm ⟨m, hm', q⟩, .inl hf⟩)
          · rcases r.fz k b z with y | ⟨p, hp, hpm, y⟩ | ⟨p, hp, o, u, y⟩
            · exact absurd y hf
            · rw [r.phm p hp hpm] at y
              rcases ok1 p hp with x | x
              · exact .inr (.inr ⟨p, x, hp, fun w => absurd w hpm, fun _ => y⟩)
              · have := x k hk
                rw [if_neg hpm] at this
                exact absurd (r.dis k (F.nl + p) b this.1 this.2 z (by rw [r.phm p hp hpm]; exact y)) hi
            · exact .inr (.inl ⟨w, fun m hm' q => hm ⟨m, hm', q⟩, .inr ⟨p, hp, o, u, y⟩⟩)
        · by_cases hpm : p ∈ F.mu
          · exact absurd ⟨p, hpm, r.mgr p hpm b w⟩ hm
          · rcases ok1 p hp with x | x
            · exact .inr (.inr ⟨p, x, hp, fun w => absurd w hpm, fun _ => w⟩)
            · have := x k hk
              rw [if_neg hpm] at this
              exact absurd (r.dis k (F.nl + p) b this.1 this.2 z (by rw [r.phm p hp hpm]; exact w)) hi
    · exact .inr (.inl ⟨h0' b z1, fun m _ => z2 m, .inl z3⟩)
  · obtain ⟨v', q1, q2⟩ := r.rep m dm q
    have := r.mup m hm
    rw [q1] at this
    cases w : F.vs0[m]? with
    | none => rw [w] at this; cases this
    | some w' => rw [w] at this; cases this; exact ⟨_, rfl, q2⟩
  · obtain ⟨m1, m2, m3⟩ := mutOk_out (ok2 m hm).1.2
    refine ⟨r.thr m b q, ?_, r.mus m hm b q⟩
    rcases r.fz m b q with z | ⟨p, hp, hpm, z⟩ | ⟨p, hp, o, u, z⟩
    · exact z
    · exact (r.dis m (F.nl + p) b (by omega) (m2 p hp hpm) q z).nfrz
    · have := (r.ph p hp).1
      exact (r.dis m p.ix b (by omega) (m3 p hp) q ((r.ph p hp).2.2 _ _ z).1).nfrz
end
end VD

set_option Elab.async false
set_option linter.all false
set_option maxRecDepth 100000
set_option maxHeartbeats 4000000
namespace VD
open PySem PySem.Spec L2 MC
open PyProof.Rows hiding St

structure Fc (K : PySem.W.Frag) (H : Hp) (S : FPs) (vs : List V) (mu al : List Nat) (np : Nat) (H' : Hp) (S' : FPs) (v : V) (r : D) (T : Addr → Prop) (outs : List D) : Prop where
  keep : ∀ b o, H b = some o → (Imm H b ∨ ∀ m ∈ mu, ¬ S m b) → H' b = some o
  dom : ∀ b, H b ≠ none → H' b ≠ none
  rv : RV K (Res T H') v r
  thr : ∀ b, T b → H' b ≠ none
  prv : ∀ b, T b → Imm H' b ∨ (H b = none ∧ (∀ m ∈ mu, ¬ S' m b) ∧ NFrz H' b) ∨ ∃ p ∈ al, p < np ∧ (p ∈ mu → S' p b) ∧ (p ∉ mu → S p b)
  out : ∀ (j m : Nat), mu[j]? = some m → ∃ w dm, vs[m]? = some w ∧ outs[j]? = some dm ∧ RV K (Res (S' m) H') w dm
  mth : ∀ m ∈ mu, ∀ b, S' m b → H' b ≠ none ∧ NFrz H' b ∧ (Imm H' b ∨ H b = none ∨ S m b)
  mgr : ∀ m ∈ mu, ∀ b, S m b → S' m b
  mdis : ∀ m ∈ mu, ∀ m' ∈ mu, m ≠ m' → ∀ b, S' m b → S' m' b → Imm H' b
structure Fi (K : PySem.W.Frag) (H : Hp) (S : FPs) (vs : List V) (ds : List D) (mu : List Nat) (np : Nat) : Prop where
  lenV : vs.length = np
  lenD : ds.length = np
  rep : ∀ i d, ds[i]? = some d → ∃ v, vs[i]? = some v ∧ RV K (Res (S i) H) v d
  thr : ∀ i b, S i b → H b ≠ none
  dis : ∀ m ∈ mu, ∀ j, j ≠ m → ∀ b, S m b → S j b → Imm H b
  nfz : ∀ m ∈ mu, ∀ b, S m b → NFrz H b
  mlt : ∀ m ∈ mu, m < np
def SpD (K : PySem.W.Frag) (G : List D → Option (D × List D)) (mu al : List Nat) (np : Nat) : Sp := fun vs H Q _ =>
  ∃ (ds : List D) (S : FPs) (r : D) (outs : List D), Fi K H S vs ds mu np ∧ G ds = some (r, outs) ∧ ∀ v H' S' T, Fc K H S vs mu al np H' S' v r T outs → Q v H'

def outsOf : List Nat → Ev → Option (List D)
  | [], _ => some []
  | m :: ms, e => match e[m]? with
    | some (some d) => (outsOf ms e).map (d :: ·)
    | _ => none
theorem outsOf_get : ∀ {ms : List Nat} {e : Ev} {outs : List D}, outsOf ms e = some outs → ∀ (j m : Nat), ms[j]? = some m → ∃ d, e[m]? = some (some d) ∧ outs[j]? = some d
  | [], _, _, _, j, m, h => by simp at h
  | m0 :: ms, e, outs, h, j, m, hj => by
    unfold outsOf at h
    split at h
    · rename_i d hd
      obtain ⟨os, ho, rfl⟩ := Option.map_eq_some_iff.mp h
      cases j with
      | zero => simp at hj; subst hj; exact ⟨d, hd, rfl⟩
      | succ j =>
        obtain ⟨d', h1, h2⟩ := outsOf_get ho j m (by simpa using hj)
        exact ⟨d', h1, by simpa using h2⟩
    · cases h
def start0 (nl : Nat) (ds : List D) : Ev := ds.map some ++ List.replicate (nl - ds.length) none
def dFn (nl : Nat) (mu : List Nat) (body : Ev → Option Out) : List D → Option (D × List D) := fun ds => match body (start0 nl ds) with
  | some (.rt d e) => (outsOf mu e).map fun o => (d, o)
  | some (.nx e) => (outsOf mu e).map fun o => (D.non, o)
  | _ => none
def initL (nl np : Nat) (mu : List Nat) : List Nat := ((List.range np).filter fun p => !mu.contains p).flatMap fun p => [p, nl + p]
def initR (nl np : Nat) (mu : List Nat) : Rl := (initL nl np mu).flatMap fun i => ((initL nl np mu).filter (· != i)).map fun j => (i, j)
theorem initR_out {nl np : Nat} {mu : List Nat} {i j : Nat} (hij : i ≠ j) (h : rel (initR nl np mu) i j = false) : i ∉ initL nl np mu ∨ j ∉ initL nl np mu := by
  by_cases hi : i ∈ initL nl np mu
  · by_cases hj : j ∈ initL nl np mu
    · exfalso
      have : rel (initR nl np mu) i j = true := rel_mem.mpr (.inl (List.mem_flatMap.mpr ⟨i, hi, List.mem_map.mpr ⟨j, List.mem_filter.mpr ⟨hj, by simpa using Ne.symm hij⟩, rfl⟩⟩))
      rw [h] at this; cases this
    · exact .inr hj
  · exact .inl hi
theorem initL_mem {nl np : Nat} {mu : List Nat} {i : Nat} : i ∈ initL nl np mu ↔ ∃ p, p < np ∧ p ∉ mu ∧ (i = p ∨ i = nl + p) := by
  unfold initL
  simp only [List.mem_flatMap, List.mem_filter, List.mem_range, Bool.not_eq_true', List.contains_eq_mem, decide_eq_false_iff_not, List.mem_cons, List.not_mem_nil, or_false]
  constructor
  · rintro ⟨p, ⟨h1, h2⟩, h3⟩; exact ⟨p, h1, h2, h3⟩
  · rintro ⟨p, h1, h2, h3⟩; exact ⟨p, ⟨h1, h2⟩, h3⟩
def S0of (nl np : Nat) (mu : List Nat) (S : FPs) : FPs := fun k b => if k < np then S k b else if nl ≤ k ∧ k - nl < np ∧ k - nl ∉ mu then S (k - nl) b else False
section
variable {K : PySem.W.Frag} {H : Hp} {S : FPs} {vs : List V} {ds : List D} {mu al : List Nat} {np nl : Nat}
theorem S0of_par {p : Nat} (h : p < np) : S0of nl np mu S p = S p := by funext b; unfold S0of; rw [if_pos h]
theorem S0of_ph (hl : np ≤ nl) {p : Nat} (h : p < np) (hm : p ∉ mu) : S0of nl np mu S (nl + p) = S p := by
  funext b; unfold S0of
  rw [if_neg (by omega), if_pos ⟨by omega, by omega, by rw [show nl + p - nl = p by omega]; exact hm⟩, show nl + p - nl = p by omega]
theorem S0of_cases {k : Nat} {b : Addr} (hl : np ≤ nl) (h : S0of nl np mu S k b) : ∃ p, p < np ∧ S p b ∧ (k = p ∨ (k = nl + p ∧ p ∉ mu)) := by
  unfold S0of at h
  split at h
  · exact ⟨k, by assumption, h, .inl rfl⟩
  · split at h
    · rename_i hc
      exact ⟨k - nl, hc.2.1, h, .inr ⟨by omega, hc.2.2⟩⟩
    · exact h.elim
theorem Rp.init (N : List Str) (hl : np ≤ nl) (hN : N.length = nl) (i : Fi K H S vs ds mu np) : Rp K ⟨nl, np, H, vs, S, mu, i.thr⟩ (initR nl np mu) [] H (L2.start N vs) (start0 nl ds) (S0of nl np mu S) := by
  have hlen : (L2.start N vs).length = nl := by
    unfold L2.start
    rw [List.length_append, List.length_map, List.length_replicate, hN, i.lenV]; omega
  have hlenE : (start0 nl ds).length = nl := by
    unfold start0
    rw [List.length_append, List.length_map, List.length_replicate, i.lenD]; omega
  refine ⟨hlenE, hlen, fun k d q => ?_, fun k j b h1 h2 h3 h4 => ?_, fun k b q => ?_, fun b o q _ => .inl q, fun b q => q, fun k b q => ?_, fun p hp hm => S0of_ph hl hp hm, fun k b q => ?_, (fun p hp => nomatch hp), fun m hm => ?_, fun m hm b q => ?_, fun m hm b q => ?_, fun k b h1 _ h => by
    obtain ⟨p, hp, _, z⟩ := S0of_cases hl h
    have h1 : nl + np ≤ k := h1
    omega⟩
  · have hk : k < np := by
      unfold start0 at q
      by_cases h : k < ds.length
      · rw [← i.lenD]; exact h
      · rw [List.getElem?_append_right (by simpa using h), List.getElem?_replicate] at q
        split at q <;> cases q
    have hd : ds[k]? = some d := by
      unfold start0 at q
      rw [List.getElem?_append_left (by rw [List.length_map, i.lenD]; exact hk), List.getElem?_map] at q
      cases e : ds[k]? with
      | none => rw [e] at q; cases q
      | some a => rw [e] at q; cases q; rfl
    obtain ⟨v, h1, h2⟩ := i.rep k d hd
    refine ⟨v, ?_, by rw [S0of_par hk]; exact h2⟩
    unfold L2.start
    rw [List.getElem?_append_left (by rw [List.length_map, i.lenV]; exact hk), List.getElem?_map, h1]; rfl
  · obtain ⟨p, hp, sp, ep⟩ := S0of_cases hl h3
    obtain ⟨q, hq, sq, eq⟩ := S0of_cases hl h4
    by_cases hpm : p ∈ mu
    · by_cases hpq : q = p
      · subst hpq
        have e1 : k = q := ep.elim id fun z => absurd hpm z.2
        have e2 : j = q := eq.elim id fun z => absurd hpm z.2
        exact absurd (e1.trans e2.symm) h1
      · exact i.dis p hpm q hpq b sp sq
    · by_cases hqm : q ∈ mu
      · have hpq : p ≠ q := fun z => hpm (by rw [z]; exact hqm)
        exact i.dis q hqm p hpq b sq sp
      · rcases initR_out h1 h2 with z | z
        · exact absurd (initL_mem.mpr ⟨p, hp, hpm, ep.imp id fun w => w.1⟩) z
        · exact absurd (initL_mem.mpr ⟨q, hq, hqm, eq.imp id fun w => w.1⟩) z
  · obtain ⟨p, _, sp, _⟩ := S0of_cases hl q; exact i.thr p b sp
  · obtain ⟨p, hp, sp, _⟩ := S0of_cases hl q; exact .inr (.inr ⟨p, hp, sp⟩)
  · obtain ⟨p, hp, sp, _⟩ := S0of_cases hl q
    by_cases hpm : p ∈ mu
    · exact .inl (i.nfz p hpm b sp)
    · exact .inr (.inl ⟨p, hp, hpm, by rw [S0of_ph hl hp hpm]; exact sp⟩)
  · have hm' : m < vs.length := by rw [i.lenV]; exact i.mlt m hm
    unfold L2.start
    rw [List.getElem?_append_left (by simpa using hm'), List.getElem?_map]
  · rw [S0of_par (i.mlt m hm)] at q; exact .inr (.inr q)
  · rw [S0of_par (i.mlt m hm)]; exact q
theorem Fin.fc {H' : Hp} {S' : FPs} {v : V} {r : D} {T : Addr → Prop} {e : Ev} {outs : List D} {h0 : ∀ p b, S p b → H b ≠ none} (f : Fin K ⟨nl, np, H, vs, S, mu, h0⟩ [] al H' S' v r T e) (o : outsOf mu e = some outs) : Fc K H S vs mu al np H' S' v r T outs := by
  refine ⟨fun b o q k => ?_, f.dom, f.rv, f.thr, fun b tb => ?_, fun j m hj => ?_, f.mth, f.mgr, f.mdis⟩
  · rcases f.keep b o q k with z | ⟨p, hp, _⟩
    · exact z
    · cases hp
  · rcases f.prv b tb with z | ⟨z1, z2, z3⟩ | z
    · exact .inl z
    · rcases z3 with z3 | ⟨p, hp, _⟩
      · exact .inr (.inl ⟨z1, z2, z3⟩)
      · cases hp
    · exact .inr (.inr z)
  · obtain ⟨d, h1, h2⟩ := outsOf_get o j m hj
    obtain ⟨w, h3, h4⟩ := f.out m (List.mem_of_getElem? hj) d h1
    exact ⟨w, d, h3, h2, h4⟩
end

section
variable {P : Program} {w : World} {K : PySem.W.Frag} {mg : Str → Option Value} {base : Heap} {x qual : Str} {st : Stmt} {f : Addr} {fd : FuncData} {N ps : List Str} {k nl np : Nat} {mu al : List Nat} {den : Ev → Option Out} {Rn : Rl}
theorem fn_den (F : Fun K x qual st f fd) (S : FnScope N ps (defScope st)) (hl : np ≤ nl) (hN : N.length = nl) (hps : ps.length = np) (hret : ∀ (H : Hp) (vs : List V) (S : FPs) (h0 : ∀ p b, S p b → H b ≠ none), retOk ⟨nl, np, H, vs, S, mu, h0⟩ [] Rn al [] = true)
    (body : ∀ (X : Cx) (H : Hp) (vs : List V) (S : FPs) (h0 : ∀ p b, S p b → H b ≠ none), X.prog = P → X.w = w → X.K = K → X.mg = mg → X.base = base → X.N = N → X.env.scope = defScope st → X.calm = true → (X.fn = fun _ => true) → Clean X.A → Room k X.A → PassesOwn (model X.prog X.w) X.A X.env X.xe → VB X ⟨nl, np, H, vs, S, mu, h0⟩ (initR nl np mu) [] Rn [] al (defBody st) den) :
    FnA Clean P w K mg base CX0 (k + 1) f fd ps (SpD K (dFn nl mu den) mu al np) := by
  refine FunA.ok F S (fun vs H Q E h => by obtain ⟨ds, S, r, outs, hi, _⟩ := h; rw [hi.lenV, hps]) fun cdv A outer s H vs Q E hc hr h => ?_
  obtain ⟨ds, S0, r, outs, hi, hg, q⟩ := h
  have b := body (cxOf CX0 P w K mg base N qual (defScope st) f cdv A outer s H E).nox H vs S0 hi.thr rfl rfl rfl rfl rfl rfl rfl rfl rfl hc hr PassesOwn.never
  obtain ⟨t, ht, hs⟩ := b.ex
  refine ⟨t, ht, ?_⟩
  unfold dFn at hg
  have r0 := Rp.init (nl := nl) N hl hN hi
  split at hg
  · rename_i d e he
    obtain ⟨o, ho, hh⟩ := Option.map_eq_some_iff.mp hg
    cases hh
    exact hs [] rfl _ H _ _ _ _ r0 he fun v H' S' T fi => q v H' S' T (fi.fc ho)
  · rename_i e he
    obtain ⟨o, ho, hh⟩ := Option.map_eq_some_iff.mp hg
    cases hh
    refine hs [] rfl _ H _ _ _ _ r0 he fun σ' H' S' r' => q _ H' S' _ ((r'.fin (A := []) (Hs := H') (T := fun _ => False) (v := .non) (d := .non) ⟨.inr .non, fun b z => z.elim, fun b z => z.elim⟩ r'.dom (hret _ _ _ _)).fc ho)
  · cases hg
end

def SO (K : PySem.W.Frag) (F : Fx) (R : Rl) (NM : List Nat) (t : TA) (den : Ev → Option (List D × Ev)) (As : List (List Nat)) (Os : List (Option Nat)) (M : List Nat) : Prop :=
  ∀ (PH : List Ph), PH.map (·.ix) = NM → ∀ (σ : St) (H : Hp) (e : Ev) (S : FPs) (Q : List V → Hp → Prop) (ds : List D) (e' : Ev), Rp K F R PH H σ e S → den e = some (ds, e') →
    (∀ vs H' S' Ts, Stp M H S H' S' → Rp K F R PH H' σ e' S' → TmL K H H' S' As vs ds Ts → (∀ (i x : Nat), Os[i]? = some (some x) → (∃ v, σ[x]? = some (some v) ∧ vs[i]? = some v) ∧ Ts[i]? = some (S' x)) → Q vs H') → t σ H Q
structure VO (X : Cx) (F : Fx) (R : Rl) (NM : List Nat) (es : List Expr) (den : Ev → Option (List D × Ev)) (As : List (List Nat)) (Os : List (Option Nat)) (M : List Nat) : Prop where
  ex : ∃ t, PA X es t ∧ SO X.K F R NM t den As Os M
section
variable {X : Cx} {F : Fx} {R : Rl} {NM : List Nat} {a b : Expr} {es : List Expr} {pos : Pos} {da db : Ev → Option (D × Ev)} {ds : Ev → Option (List D × Ev)} {A A1 A2 M M1 M2 : List Nat} {As : List (List Nat)} {Os : List (Option Nat)}
theorem vo_nil : VO X F R NM [] aNil [] [] [] := ⟨_, pa_nil, fun PH hP σ H e S Q ds e' r hd q => by cases hd; exact q [] H S [] Stp.refl r .nil (fun i x z => by simp at z)⟩
theorem vo_cons (h1 : VE X F R NM a da A M1) (h2 : VO X F R NM es ds As Os M2) (c : clear R A M2 = true := by rfl) (hs : starEach (a :: es) X.env = (false, eval a X.env) :: starEach es X.env := by rfl) :
    VO X F R NM (a :: es) (aCons da ds) (A :: As) (none :: Os) (M1 ++ M2) := by
  obtain ⟨t1, p1, s1⟩ := h1.ex
  obtain ⟨t2, p2, s2⟩ := h2.ex
  refine ⟨_, pa_cons p1 p2 hs, fun PH hP σ H e S Q xs e' r hd q => ?_⟩
  unfold aCons at hd
  split at hd
  · rename_i x e1 hx
    split at hd
    · rename_i ys e2 hy
      cases hd
      refine s1 PH hP σ H e S _ _ _ r hx fun v H1 S1 T st1 r1 tm1 => ?_
      refine s2 PH hP σ H1 _ S1 _ _ _ r1 hy fun vs H2 S2 Ts st2 r2 tm2 own => ?_
      refine q (v :: vs) H2 S2 (T :: Ts) (st1.trans st2) r2 (.cons (tm1.step r1 st2 c) (tm2.older st1.thr)) fun i y hi => ?_
      cases i with
      | zero => simp at hi
      | succ i => simpa using own i y (by simpa using hi)
    · cases hd
  · cases hd
def aOwn (x : Nat) (ds : Ev → Option (List D × Ev)) : Ev → Option (List D × Ev) := fun e => match e[x]? with
  | some (some _) => match ds e with
    | some (xs, e1) => match e1[x]? with
      | some (some d) => some (d :: xs, e1)
      | _ => none
    | none => none
  | _ => none
theorem vo_own (i : Nat) {x : Str} {ps : Pos} (h2 : VO X F R NM es ds As Os M2) (hN : X.N[i]? = some x := by rfl) (hv : Vis X.env.scope x := by first | exact Or.inl rfl | exact Or.inr (Or.inl rfl) | exact Or.inr (Or.inr rfl)) (hd : (x == ("__debug__" : Str)) = false := by decide)
    (hcd : (x == ("__classdict__" : Str)) = false := by decide) (hs : starEach (.Name x ps :: es) X.env = (false, eval (.Name x ps) X.env) :: starEach es X.env := by rfl) :
    VO X F R NM (.Name x ps :: es) (aOwn i ds) ([i] :: As) (some i :: Os) M2 := by
  obtain ⟨t2, p2, s2⟩ := h2.ex
  refine ⟨_, pa_cons (pe_var hN hv hd hcd) p2 hs, fun PH hP σ H e S Q xs e' r hd q => ?_⟩
  unfold aOwn at hd
  split at hd
  · rename_i d0 hx
    split at hd
    · rename_i ys e1 hy
      split at hd
      · rename_i d hd1
        cases hd
        obtain ⟨v, w1, w2⟩ := r.rep i d0 hx
        refine ⟨v, w1, s2 PH hP σ H e S _ _ _ r hy fun vs H2 S2 Ts st2 r2 tm2 own => ?_⟩
        obtain ⟨v', w3, w4⟩ := r2.rep i d hd1
        rw [w1] at w3; cases w3
        refine q (v :: vs) H2 S2 (S2 i :: Ts) st2 r2 (.cons ⟨w4, r2.thr i, fun b tb => .inr (.inl ⟨i, by simp, tb⟩)⟩ tm2) fun j y hj => ?_
        cases j with
        | zero =>
          have : i = y := by simpa using hj
          subst this
          exact ⟨⟨v, w1, rfl⟩, rfl⟩
        | succ j => simpa using own j y (by simpa using hj)
      · cases hd
    · cases hd
  · cases hd
def putOuts : List Nat → List D → Ev → Ev
  | x :: xs, d :: ds, e => putOuts xs ds (e.set x (some d))
  | _, _, e => e
theorem putOuts_len : ∀ (xs : List Nat) (ds : List D) (e : Ev), (putOuts xs ds e).length = e.length
  | [], _, _ => rfl
  | _ :: _, [], _ => rfl
  | x :: xs, d :: ds, e => by unfold putOuts; rw [putOuts_len xs ds, List.length_set]
theorem putOuts_ne : ∀ {xs : List Nat} {ds : List D} {e : Ev} {i : Nat}, i ∉ xs → (putOuts xs ds e)[i]? = e[i]?
  | [], _, _, _, _ => rfl
  | _ :: _, [], _, _, _ => rfl
  | x :: xs, d :: ds, e, i, h => by
    unfold putOuts
    rw [putOuts_ne (fun z => h (List.mem_cons_of_mem _ z)), List.getElem?_set_ne (fun z => h (by rw [z]; exact List.mem_cons_self))]
theorem putOuts_at : ∀ {xs : List Nat} {ds : List D} {e : Ev} {j x : Nat}, xs.Nodup → xs[j]? = some x → x < e.length → (putOuts xs ds e)[x]? = (match ds[j]? with | some d => some (some d) | none => e[x]?)
  | [], _, _, _, _, _, h, _ => by simp at h
  | x0 :: xs, [], e, j, x, _, _, _ => by unfold putOuts; simp
  | x0 :: xs, d :: ds, e, j, x, nd, h, hl => by
    unfold putOuts
    obtain ⟨n1, n2⟩ := List.nodup_cons.mp nd
    cases j with
    | zero =>
      have : x0 = x := by simpa using h
      subst this
      rw [putOuts_ne n1, List.getElem?_set_self hl]; rfl
    | succ j =>
      have h' : xs[j]? = some x := by simpa using h
      rw [putOuts_at n2 h' (by rw [List.length_set]; exact hl)]
      have hne : x0 ≠ x := fun z => n1 (by rw [z]; exact List.mem_of_getElem? h')
      rw [List.getElem?_set_ne hne]; rfl
def dCall (G : List D → Option (D × List D)) (xs ks : List Nat) (ds : Ev → Option (List D × Ev)) : Ev → Option (D × Ev) := fun e => match ds e with
  | some (vs, e1) => match G vs with
    | some (r, outs) => some (r, putOuts xs outs (killL ks e1))
    | none => none
  | none => none
def callOk (F : Fx) (NM : List Nat) (R : Rl) (mu xs ks al : List Nat) (As : List (List Nat)) (Os : List (Option Nat)) : Bool :=
  decide (mu.map (fun m => Os[m]?) = xs.map fun x => some (some x)) && decide xs.Nodup && decide mu.Nodup && decide (Os.length = As.length) && (al.all fun p => decide (p < As.length)) &&
  (mu.all fun m => decide (As[m]? = (Os[m]?.join).map fun x => [x])) &&
  (xs.all fun x => mutOk F NM R x && killOk F R x (ks ++ xs)) &&
  (mu.all fun m => (List.range As.length).all fun j => m == j || ((As[j]?.getD []).all fun a => (Os[m]?.join).all fun x => a != x && !rel R a x))
theorem TmL.len {K : PySem.W.Frag} {Hs H : Hp} {S : FPs} {vs : List V} {ds : List D} {Ts : List (Addr → Prop)} (h : TmL K Hs H S As vs ds Ts) : As.length = vs.length ∧ As.length = ds.length ∧ As.length = Ts.length := by
  induction h with
  | nil => exact ⟨rfl, rfl, rfl⟩
  | cons _ _ ih => simp only [List.length_cons]; omega
theorem TmL.get {K : PySem.W.Frag} {Hs H : Hp} {S : FPs} {vs : List V} {ds : List D} {Ts : List (Addr → Prop)} (h : TmL K Hs H S As vs ds Ts) : ∀ {i : Nat}, i < As.length → ∃ A v d T, As[i]? = some A ∧ vs[i]? = some v ∧ ds[i]? = some d ∧ Ts[i]? = some T ∧ Tm K Hs H S A v d T := by
  induction h with
  | nil => intro i h; simp at h
  | cons h _ ih =>
    intro i hi
    cases i with
    | zero => exact ⟨_, _, _, _, rfl, rfl, rfl, rfl, h⟩
    | succ i => simpa using ih (i := i) (by simpa using hi)
def pick (al : List Nat) (As : List (List Nat)) : List Nat := al.flatMap fun p => As[p]?.getD []
theorem Rp.nfz {PH : List Ph} {K : PySem.W.Frag} {H : Hp} {σ : St} {e : Ev} {S : FPs} {x : Nat} (r : Rp K F R PH H σ e S) (ok : mutOk F (PH.map (·.ix)) R x = true) {b : Addr} (hb : S x b) : NFrz H b := by
  obtain ⟨m1, m2, m3⟩ := mutOk_out ok
  rcases r.fz x b hb with z | ⟨p, hp, hpm, z⟩ | ⟨p, hp, o, u, z⟩
  · exact z
  · exact (r.dis x (F.nl + p) b (by omega) (m2 p hp hpm) hb z).nfrz
  · have := (r.ph p hp).1
    exact (r.dis x p.ix b (by omega) (m3 p hp) hb ((r.ph p hp).2.2 _ _ z).1).nfrz
def SofTs (Ts : List (Addr → Prop)) : FPs := fun i b => ∃ T, Ts[i]? = some T ∧ T b
theorem SofTs_at {Ts : List (Addr → Prop)} {i : Nat} {T : Addr → Prop} (h : Ts[i]? = some T) : SofTs Ts i = T := by
  funext b; unfold SofTs
  exact propext ⟨fun ⟨U, h1, h2⟩ => by rw [h] at h1; cases h1; exact h2, fun q => ⟨T, h, q⟩⟩
theorem se_call {K : PySem.W.Frag} {t : TA} {G : List D → Option (D × List D)} {mu al xs ks : List Nat} {np : Nat} {E : XK} (ha : SO K F R NM t ds As Os M) (ok : callOk F NM R mu xs ks al As Os = true) (hnp : As.length = np) :
    SE K F R NM (tCall (SpD K G mu al np) [] E t) (dCall G xs ks ds) (pick al As) (M ++ xs) := by
  subst hnp
  unfold callOk at ok
  simp only [Bool.and_eq_true, decide_eq_true_eq, List.all_eq_true] at ok
  obtain ⟨⟨⟨⟨⟨⟨⟨ok1, ok2⟩, ok3⟩, ok4⟩, ok5⟩, ok6⟩, ok7⟩, ok8⟩ := ok
  -- a changed parameter and its slot
  have mx : ∀ (j m : Nat), mu[j]? = some m → ∃ x, xs[j]? = some x ∧ Os[m]? = some (some x) := fun j m hj => by
    have h1 : (mu.map fun m => Os[m]?)[j]? = some (Os[m]?) := by rw [List.getElem?_map, hj]; rfl
    rw [ok1, List.getElem?_map] at h1
    cases hx : xs[j]? with
    | none => rw [hx] at h1; cases h1
    | some x => rw [hx] at h1; exact ⟨x, rfl, (Option.some.inj h1).symm⟩
  have xm : ∀ (j x : Nat), xs[j]? = some x → ∃ m, mu[j]? = some m ∧ Os[m]? = some (some x) := fun j x hj => by
    have h1 : (xs.map fun x => some (some x))[j]? = some (some (some x)) := by rw [List.getElem?_map, hj]; rfl
    rw [← ok1, List.getElem?_map] at h1
    cases hm : mu[j]? with
    | none => rw [hm] at h1; cases h1
    | some m => rw [hm] at h1; exact ⟨m, rfl, Option.some.inj h1⟩
  have mO : ∀ m ∈ mu, ∃ x, x ∈ xs ∧ Os[m]? = some (some x) ∧ As[m]? = some [x] ∧ m < As.length := fun m hm => by
    obtain ⟨j, hj⟩ := List.mem_iff_getElem?.mp hm
    obtain ⟨x, h1, h2⟩ := mx j m hj
    have h3 := ok6 m hm
    rw [h2] at h3
    exact ⟨x, List.mem_of_getElem? h1, h2, h3, by rw [← ok4]; exact (List.getElem?_eq_some_iff.mp h2).1⟩
  have xO : ∀ x ∈ xs, ∃ m, m ∈ mu ∧ Os[m]? = some (some x) := fun x hx => by
    obtain ⟨j, hj⟩ := List.mem_iff_getElem?.mp hx
    obtain ⟨m, h1, h2⟩ := xm j x hj
    exact ⟨m, List.mem_of_getElem? h1, h2⟩
  have uniq : ∀ m ∈ mu, ∀ m' ∈ mu, ∀ x, Os[m]? = some (some x) → Os[m']? = some (some x) → m = m' := fun m hm m' hm' x h h' => by
    obtain ⟨j, hj⟩ := List.mem_iff_getElem?.mp hm
    obtain ⟨j', hj'⟩ := List.mem_iff_getElem?.mp hm'
    obtain ⟨y, h1, h2⟩ := mx j m hj
    obtain ⟨y', h1', h2'⟩ := mx j' m' hj'
    rw [h] at h2; cases h2
    rw [h'] at h2'; cases h2'
    obtain ⟨l1, e1⟩ := List.getElem?_eq_some_iff.mp h1
    obtain ⟨l2, e2⟩ := List.getElem?_eq_some_iff.mp h1'
    have : j = j' := (List.getElem_inj ok2).mp (e1.trans e2.symm)
    subst this
    rw [hj] at hj'; cases hj'; rfl
  intro PH hP σ H e S Q d e' rr hd q
  subst hP
  unfold dCall at hd
  split at hd
  · rename_i ys e1 hy
    split at hd
    · rename_i res outs hg
      cases hd
      refine ha PH rfl σ H e S _ _ _ rr hy fun vs H1 S1 Ts st1 r1 tm own => ?_
      rw [List.append_nil]
      obtain ⟨l1, l2, l3⟩ := tm.len
      have ownT : ∀ (m x : Nat), Os[m]? = some (some x) → SofTs Ts m = S1 x := fun m x h => SofTs_at (own m x h).2
      have prv : ∀ (i : Nat) b, SofTs Ts i b → ∃ A, As[i]? = some A ∧ H1 b ≠ none ∧ (Imm H1 b ∨ (∃ k ∈ A, S1 k b) ∨ (H b = none ∧ (∀ k, ¬ S1 k b) ∧ NFrz H1 b)) := fun i b hb => by
        obtain ⟨T, hT, tb⟩ := hb
        obtain ⟨A, v, d, T', h1, _, _, h4, t⟩ := tm.get (i := i) (by rw [l3]; exact (List.getElem?_eq_some_iff.mp hT).1)
        rw [hT] at h4; cases h4
        exact ⟨A, h1, t.thr b tb, t.prv b tb⟩
      have xmut : ∀ x ∈ xs, mutOk F (PH.map (·.ix)) R x = true := fun x hx => (ok7 x hx).1
      refine ⟨ys, SofTs Ts, _, _, ⟨l1.symm, l2.symm, fun i d hi => ?_, fun i b hb => ?_, fun m hm j hj b h1 h2 => ?_, fun m hm b hb => ?_, fun m hm => ?_⟩, hg, fun v H' S' T fc => ?_⟩
      · obtain ⟨A, v, d', T, _, h2, h3, h4, t⟩ := tm.get (i := i) (by rw [l2]; exact (List.getElem?_eq_some_iff.mp hi).1)
        rw [hi] at h3; cases h3
        exact ⟨v, h2, by rw [SofTs_at h4]; exact t.rv⟩
      · obtain ⟨_, _, h, _⟩ := prv i b hb; exact h
      · obtain ⟨x, hx, ho, _, _⟩ := mO m hm
        rw [ownT m x ho] at h1
        obtain ⟨A, hA, _, z⟩ := prv j b h2
        rcases z with z | ⟨k, hk, z⟩ | ⟨_, z, _⟩
        · exact z
        · have := ok8 m hm j (List.mem_range.mpr (List.getElem?_eq_some_iff.mp hA).1)
          simp only [Bool.or_eq_true, beq_iff_eq, List.all_eq_true] at this
          have := this.resolve_left (Ne.symm hj) k (by rw [hA]; exact hk)
          rw [ho] at this
          have : k ≠ x ∧ rel R k x = false := by simpa using this
          exact r1.dis k x b this.1 this.2 z h1
        · exact absurd h1 (z x)
      · obtain ⟨x, hx, ho, _, _⟩ := mO m hm
        rw [ownT m x ho] at hb
        exact r1.nfz (xmut x hx) hb
      · obtain ⟨_, _, _, _, h⟩ := mO m hm; exact h
      -- behind it
      let S2 : FPs := fun k b => (k ∉ xs ∧ S1 k b) ∨ ∃ m, m ∈ mu ∧ Os[m]? = some (some k) ∧ S' m b
      have s2o : ∀ k, k ∉ xs → S2 k = S1 k := fun k hk => by
        funext b
        refine propext ⟨fun h => ?_, fun h => .inl ⟨hk, h⟩⟩
        rcases h with h | ⟨m, hm, ho, _⟩
        · exact h.2
        · obtain ⟨x, hx, ho', _, _⟩ := mO m hm
          rw [ho] at ho'; cases ho'
          exact absurd hx hk
      have s2x : ∀ (x m : Nat), m ∈ mu → Os[m]? = some (some x) → ∀ b, S2 x b ↔ S' m b := fun x m hm ho b => by
        refine ⟨fun h => ?_, fun h => .inr ⟨m, hm, ho, h⟩⟩
        obtain ⟨y, hy, ho', _, _⟩ := mO m hm
        rw [ho] at ho'; cases ho'
        rcases h with h | ⟨m', hm', ho', h⟩
        · exact absurd hy h.1
        · rw [uniq m hm m' hm' x ho ho']; exact h
      have noSc : ∀ b, (∀ x ∈ xs, ¬ S1 x b) → ∀ m ∈ mu, ¬ SofTs Ts m b := fun b h m hm z => by
        obtain ⟨x, hx, ho, _, _⟩ := mO m hm
        rw [ownT m x ho] at z
        exact h x hx z
      have sq : Stq xs H1 S1 H' S2 := by
        refine ⟨fun b o eb k => fc.keep b o eb (k.imp_right fun z => noSc b z), fc.dom, fun k hk => s2o k hk, fun k b h => ?_⟩
        by_cases hk : k ∈ xs
        · obtain ⟨m, hm, ho⟩ := xO k hk
          exact .inr ⟨m, hm, ho, fc.mgr m hm b (by rw [ownT m k ho]; exact h)⟩
        · exact .inl ⟨hk, h⟩
      have own2 : ∀ x ∈ xs, ∀ b, S2 x b → H' b ≠ none ∧ NFrz H' b ∧ (Imm H' b ∨ H1 b = none ∨ S1 x b) := fun x hx b h => by
        obtain ⟨m, hm, ho⟩ := xO x hx
        have := fc.mth m hm b ((s2x x m hm ho b).mp h)
        rw [ownT m x ho] at this
        exact this
      have h0 : ∀ b, H1 b = none → F.H0 b = none := fun b z => by
        cases w : F.H0 b with
        | none => rfl
        | some y => exact absurd z (r1.dom b (by rw [w]; exact fun q => nomatch q))
      have r2 : Rp K F R PH H' σ (putOuts xs outs (killL ks e1)) S2 := by
        refine r1.change sq (by rw [putOuts_len, killL_len]) (fun x hx d hd => ?_) (fun j d hj hd => ?_) (fun x hx b h => (own2 x hx b h).1) (fun x hx b h => (own2 x hx b h).2.1) (fun x hx b h => ?_) (fun x hx x' hx' n _ b h h' => ?_) xmut
        · obtain ⟨j, hj⟩ := List.mem_iff_getElem?.mp hx
          obtain ⟨m, h1, ho⟩ := xm j x hj
          obtain ⟨w, dm, h2, h3, h4⟩ := fc.out j m h1
          rw [putOuts_at ok2 hj (by rw [killL_len, r1.len]; exact (mutOk_out (xmut x hx)).1), h3] at hd
          cases hd
          obtain ⟨⟨v', h5, h6⟩, _⟩ := own m x ho
          rw [h2] at h6; cases h6
          exact ⟨w, h5, h4.mono (res_up fun b => (s2x x m (List.mem_of_getElem? h1) ho b).mpr)⟩
        · rw [putOuts_ne hj] at hd
          obtain ⟨h1, h2⟩ := killL_get hd
          refine ⟨h1, fun x hx => ?_⟩
          have hjl : j < F.nl := by rw [← r1.len]; exact (List.getElem?_eq_some_iff.mp h1).1
          rw [rel_comm]
          exact killOk_out (ok7 x hx).2 hjl (fun z => hj (by rw [z]; exact hx)) (fun z => (List.mem_append.mp z).elim h2 hj)
        · rcases (own2 x hx b h).2.2 with z | z | z
          · exact .inr (.inr z)
          · exact .inr (.inl ⟨h0 b z, fun k _ w => r1.thr k b w z⟩)
          · exact .inl z
        · obtain ⟨m, hm, ho⟩ := xO x hx
          obtain ⟨m', hm', ho'⟩ := xO x' hx'
          refine fc.mdis m hm m' hm' (fun z => n ?_) b ((s2x x m hm ho b).mp h) ((s2x x' m' hm' ho' b).mp h')
          rw [z, ho'] at ho
          exact (Option.some.inj (Option.some.inj ho)).symm
      have h1' : ∀ b, H1 b = none → H b = none := fun b z => by
        cases w : H b with
        | none => rfl
        | some y => exact absurd z (st1.thr b (by rw [w]; exact fun q => nomatch q))
      refine q v H' S2 T ⟨⟨fun b o eb k => ?_, fun b h => fc.dom b (st1.thr b h), fun k hk => ?_, fun k b h => sq.grow k b (st1.grow k b h)⟩, fun k b h => ?_⟩ r2 ⟨fc.rv, fc.thr, fun b tb => ?_⟩
      · rcases k with k | k
        · exact sq.keep b o (st1.keep b o eb (.inl k)) (.inl (st1.imm k))
        · have e1 := st1.keep b o eb (.inr fun m hm => k m (List.mem_append_left _ hm))
          by_cases hi : Imm H1 b
          · exact sq.keep b o e1 (.inl hi)
          · refine sq.keep b o e1 (.inr fun m hm w => ?_)
            rcases st1.new m b w with w | w | w
            · exact k m (List.mem_append_right _ hm) w
            · rw [eb] at w; cases w
            · exact hi w
      · rw [s2o k (fun z => hk (List.mem_append_right _ z)), st1.oth k (fun z => hk (List.mem_append_left _ z))]
      · have old : S1 k b → S k b ∨ H b = none ∨ Imm H' b := fun h => (st1.new k b h).imp_right (Or.imp_right sq.imm)
        by_cases hk : k ∈ xs
        · rcases (own2 k hk b h).2.2 with z | z | z
          · exact .inr (.inr z)
          · exact .inr (.inl (h1' b z))
          · exact old z
        · rw [s2o k hk] at h; exact old h
      · rcases fc.prv b tb with z | ⟨z1, z2, z3⟩ | ⟨p, hp, hl, z1, z2⟩
        · exact .inl z
        · refine .inr (.inr ⟨h1' b z1, fun k w => ?_, z3⟩)
          rcases w with w | ⟨m, hm, _, w⟩
          · exact r1.thr k b w.2 z1
          · exact z2 m hm w
        · by_cases hpm : p ∈ mu
          · obtain ⟨x, hx, ho, hA, _⟩ := mO p hpm
            exact .inr (.inl ⟨x, List.mem_flatMap.mpr ⟨p, hp, by rw [hA]; simp⟩, .inr ⟨p, hpm, ho, z1 hpm⟩⟩)
          · have z := z2 hpm
            obtain ⟨A, hA, ht, w⟩ := prv p b z
            rcases w with w | ⟨k, hk, w⟩ | ⟨w1, w2, w3⟩
            · exact .inl (sq.imm w)
            · exact .inr (.inl ⟨k, List.mem_flatMap.mpr ⟨p, hp, by rw [hA]; exact hk⟩, sq.grow k b w⟩)
            · by_cases hi : Imm H' b
              · exact .inl hi
              · refine .inr (.inr ⟨w1, fun k w => ?_, fun o u w => ?_⟩)
                · by_cases hk : k ∈ xs
                  · rcases (own2 k hk b w).2.2 with y | y | y
                    · exact hi y
                    · exact ht y
                    · exact w2 k y
                  · rw [s2o k hk] at w; exact w2 k w
                · cases eb : H1 b with
                  | none => exact ht eb
                  | some o' =>
                    have := sq.keep b o' eb (.inr fun x _ => w2 x)
                    rw [this] at w; exact w3 o u (eb.trans w)
    · cases hd
  · cases hd
theorem ve_call {x : Str} {p : Pos} {f : Addr} {fd : FuncData} {ps : List Str} {k np : Nat} {G : List D → Option (D × List D)} {mu al : List Nat} (xs ks : List Nat) (hc : Clean X.A) (FN : FnA Clean X.prog X.w X.K X.mg X.base CX0 k f fd ps (SpD X.K G mu al np)) (hr : Room k X.A) (hg : Gl X x) (hm : X.mg x = some (.ref f))
    (hk : PySem.W.keepIn X.K (.ref f) = true) (hb : Binds X.K fd ps []) (ha : VO X F R NM (a :: es) ds As Os M) (ok : callOk F NM R mu xs ks al As Os = true := by rfl) (hnp : As.length = np := by rfl) (hdb : (x == ("__debug__" : Str)) = false := by decide)
    (he : starEach (a :: es) X.env = (false, eval a X.env) :: starEach es X.env := by rfl) (hpl : (backTo pos (starEach es X.env)).any (·.1) = false := by rfl) : VE X F R NM (.Call (.Name x p) (a :: es) [] pos) (dCall G xs ks ds) (pick al As) (M ++ xs) := by
  obtain ⟨t, q, s⟩ := ha.ex
  exact ⟨_, pe_callA (E := E0) hc FN hr hg hm hk hb .nil pass0 q hdb he hpl, se_call s ok hnp⟩
end
end VD

set_option Elab.async false
set_option linter.all false
set_option maxRecDepth 100000
set_option maxHeartbeats 4000000
namespace VD
open PySem PySem.Spec L2 MC
open PyProof.Rows hiding St

def SG (K : PySem.W.Frag) (F : Fx) (R : Rl) (NM : List Nat) (R' : Rl) (A : List Nat) (fl : Bool) (Is : List Nat) (g : TG) (bd : D → Ev → Option Ev) : Prop :=
  ∀ (PH : List Ph), PH.map (·.ix) = NM → ∀ (σ : St) (H : Hp) (e : Ev) (S : FPs) (v : V) (d : D) (T : Addr → Prop) (Q : St → Hp → Prop) (e' : Ev) (Hs : Hp), Rp K F R PH H σ e S → Tm K Hs H S A v d T → (fl = true → ∀ b, T b → Imm H b) → (∀ b, F.H0 b ≠ none → Hs b ≠ none) →
    bd d e = some e' → (∀ σ' S', Rp K F R' PH H σ' e' S' → (∀ k, k ∉ Is → S' k = S k) → (∀ i ∈ Is, ∀ b, S' i b → T b) → (∀ i ∈ Is, i < F.nl) → wipe σ' Is = wipe σ Is → Q σ' H) → g v σ H Q
def SGs (K : PySem.W.Frag) (F : Fx) (R : Rl) (NM : List Nat) (R' : Rl) (A : List Nat) (fl : Bool) (Is : List Nat) (g : TGs) (bd : List D → Ev → Option Ev) : Prop :=
  ∀ (PH : List Ph), PH.map (·.ix) = NM → ∀ (σ : St) (H : Hp) (e : Ev) (S : FPs) (vs : List V) (ds : List D) (T : Addr → Prop) (Q : St → Hp → Prop) (e' : Ev) (Hs : Hp), Rp K F R PH H σ e S → DDs (Res T H) vs ds → Tm K Hs H S A .non .non T → (fl = true → ∀ b, T b → Imm H b) → (∀ b, F.H0 b ≠ none → Hs b ≠ none) →
    bd ds e = some e' → (∀ σ' S', Rp K F R' PH H σ' e' S' → (∀ k, k ∉ Is → S' k = S k) → (∀ i ∈ Is, ∀ b, S' i b → T b) → (∀ i ∈ Is, i < F.nl) → wipe σ' Is = wipe σ Is → Q σ' H) → g vs σ H Q
structure VG (X : Cx) (F : Fx) (R : Rl) (NM : List Nat) (R' : Rl) (A : List Nat) (fl : Bool) (Is : List Nat) (tg : Expr) (bd : D → Ev → Option Ev) : Prop where
  ex : ∃ g, PG X tg g ∧ SG X.K F R NM R' A fl Is g bd
structure VGs (X : Cx) (F : Fx) (R : Rl) (NM : List Nat) (R' : Rl) (A : List Nat) (fl : Bool) (Is : List Nat) (tgs : List Expr) (bd : List D → Ev → Option Ev) : Prop where
  ex : ∃ g, PGs X tgs g ∧ SGs X.K F R NM R' A fl Is g bd
def bName (i : Nat) : D → Ev → Option Ev := fun d e => some (e.set i (some d))
def bTup (n : Nat) (bd : List D → Ev → Option Ev) : D → Ev → Option Ev := fun d e => match d with
  | .tup ds => if ds.length = n then bd ds e else none
  | _ => none
def bNil : List D → Ev → Option Ev := fun ds e => match ds with | [] => some e | _ => none
def bCons (bd : D → Ev → Option Ev) (bs : List D → Ev → Option Ev) : List D → Ev → Option Ev := fun ds e => match ds with
  | d :: r => (bd d e).bind (bs r)
  | [] => none
theorem wipe_set (σ : St) (v : Option V) : ∀ {vs : List Nat} {i : Nat}, i ∈ vs → wipe (σ.set i v) vs = wipe σ vs
  | k :: vs, i, h => by
    unfold wipe
    by_cases hi : i ∈ vs
    · rw [wipe_set σ v hi]
    · have : i = k := by
        rcases List.mem_cons.mp h with z | z
        · exact z
        · exact absurd z hi
      subst this
      have key : ∀ vs : List Nat, (wipe (σ.set i v) vs).set i none = (wipe σ vs).set i none := by
        intro vs
        induction vs with
        | nil => unfold wipe; rw [List.set_set]
        | cons k vs ih =>
          unfold wipe
          by_cases hk : k = i
          · subst hk; rw [List.set_set, List.set_set, ih]
          · rw [List.set_comm _ _ hk, ih, List.set_comm _ _ hk]
      exact key vs
theorem wipe_more {σ σ' : St} {vs : List Nat} (h : wipe σ vs = wipe σ' vs) : ∀ us : List Nat, wipe σ (us ++ vs) = wipe σ' (us ++ vs)
  | [] => h
  | u :: us => by
    show (wipe σ (us ++ vs)).set u none = (wipe σ' (us ++ vs)).set u none
    rw [wipe_more h us]
theorem wipe_app (σ : St) (us vs : List Nat) : wipe σ (us ++ vs) = wipe (wipe σ vs) us := by
  induction us with
  | nil => rfl
  | cons u us ih => show (wipe σ (us ++ vs)).set u none = (wipe (wipe σ vs) us).set u none; rw [ih]
theorem wipe_comm (σ : St) (us vs : List Nat) : wipe (wipe σ vs) us = wipe (wipe σ us) vs := by
  have one : ∀ (u : Nat) (vs : List Nat) (σ : St), wipe (σ.set u none) vs = (wipe σ vs).set u none := fun u vs => by
    induction vs with
    | nil => intro σ; rfl
    | cons k vs ih =>
      intro σ
      show (wipe (σ.set u none) vs).set k none = ((wipe σ vs).set k none).set u none
      rw [ih]
      by_cases hk : u = k
      · subst hk; rfl
      · rw [List.set_comm _ _ hk]
  induction us generalizing σ with
  | nil => rfl
  | cons u us ih =>
    show (wipe (wipe σ vs) us).set u none = wipe ((wipe σ us).set u none) vs
    rw [one, ih]
section
variable {X : Cx} {F : Fx} {R R1 R2 Rn Rb R' : Rl} {NM : List Nat} {A A1 Is Is1 Is2 M : List Nat} {fl : Bool} {tg a : Expr} {tgs : List Expr} {pos : Pos} {bd : D → Ev → Option Ev} {bs : List D → Ev → Option Ev} {al : List Nat}
theorem vg_name (i : Nat) {x : Str} (hN : X.N.Nodup) (hi : X.N[i]? = some x := by rfl) (hx : Loc X.env.scope x := by first | exact Or.inl rfl | exact Or.inr rfl) (ok : setOk F i = true := by rfl) (hf : X.fn x = true ∨ X.env.scope.names.lookup x = some .local := by first | exact .inl rfl | exact .inr rfl | assumption) :
    VG X F R NM (rset R i A) A fl [i] (.Name x pos) (bName i) := by
  obtain ⟨h1, h2⟩ := setOk_out ok
  refine ⟨_, pg_name hN hi hx hf, fun PH hP σ H e S v d T Q e' Hs r t _ h0 hb q => ?_⟩
  cases hb
  refine q _ _ (r.set t h0 h1 h2) (fun k hk => setS_ne (by simpa using hk)) (fun j hj b z => ?_) (fun j hj => ?_) (wipe_set σ _ (by simp))
  · have : j = i := by simpa using hj
    rw [this, setS_eq] at z; exact z
  · have : j = i := by simpa using hj
    rw [this]; exact h1
theorem vgs_nil : VGs X F R NM R A fl [] [] bNil := ⟨_, pgs_nil, fun PH hP σ H e S vs ds T Q e' Hs r hd t hf h0 hb q => by
  unfold bNil at hb
  split at hb
  · cases hb
    cases hd
    exact ⟨rfl, q σ S r (fun _ _ => rfl) (by simp) (by simp) rfl⟩
  · cases hb⟩
theorem Tm.non {K : PySem.W.Frag} {Hs H : Hp} {S : FPs} {v : V} {d : D} {T : Addr → Prop} (t : Tm K Hs H S A v d T) {v' : V} {d' : D} (h : RV K (Res T H) v' d') : Tm K Hs H S A v' d' T := ⟨h, t.thr, t.prv⟩
def moreA (fl : Bool) (Is A : List Nat) : List Nat := if fl then A else Is ++ A
theorem vgs_cons (h1 : VG X F R NM R1 A fl Is1 tg bd) (h2 : VGs X F R1 NM R2 (moreA fl Is1 A) fl Is2 tgs bs) (c : (fl || Is1.all fun i => !A.contains i) = true := by rfl)
    (hs : (assignEach (tg :: tgs) X.env).map (·.2) = assign tg X.env :: (assignEach tgs X.env).map (·.2) := by rfl) : VGs X F R NM R2 A fl (Is2 ++ Is1) (tg :: tgs) (bCons bd bs) := by
  obtain ⟨g1, p1, s1⟩ := h1.ex
  obtain ⟨g2, p2, s2⟩ := h2.ex
  refine ⟨_, pgs_cons p1 p2 hs, fun PH hP σ H e S vs ds T Q e' Hs r hd t hf h0 hb q => ?_⟩
  unfold bCons at hb
  split at hb
  · rename_i d rest
    cases hd with
    | @cons v vs _ _ hd hds =>
      obtain ⟨e1, hb1, hb2⟩ := Option.bind_eq_some_iff.mp hb
      refine ⟨v, vs, rfl, s1 PH hP σ H e S v d T _ e1 Hs r (t.non (.inr hd)) hf h0 hb1 fun σ1 S1 r1 k1 k2 k4 k3 => ?_⟩
      refine s2 PH hP σ1 H e1 S1 vs rest T Q e' Hs r1 hds ⟨.inr .non, t.thr, fun b tb => ?_⟩ hf h0 hb2 fun σ' S' r' q1 q2 q4 q3 => q σ' S' r' (fun k hk => ?_) (fun i hi => ?_) (fun i hi => ?_) ?_
      · by_cases hfl : fl = true
        · exact .inl (hf hfl b tb)
        · unfold moreA
          rw [if_neg hfl]
          by_cases hin : ∃ i ∈ Is1, S1 i b
          · obtain ⟨i, hi, z⟩ := hin
            exact .inr (.inl ⟨i, List.mem_append_left _ hi, z⟩)
          · rcases t.prv b tb with z | ⟨k, hk, z⟩ | ⟨z1, z2, z3⟩
            · exact .inl z
            · refine .inr (.inl ⟨k, List.mem_append_right _ hk, ?_⟩)
              rw [k1 k fun w => ?_]; exact z
              simp only [hfl, Bool.false_or, List.all_eq_true, Bool.not_eq_true', List.contains_eq_mem, decide_eq_false_iff_not] at c
              exact c k w hk
            · refine .inr (.inr ⟨z1, fun k w => ?_, z3⟩)
              by_cases hk : k ∈ Is1
              · exact hin ⟨k, hk, w⟩
              · rw [k1 k hk] at w; exact z2 k w
      · rw [q1 k (fun z => hk (List.mem_append_left _ z)), k1 k (fun z => hk (List.mem_append_right _ z))]
      · intro b z
        by_cases h2 : i ∈ Is2
        · exact q2 i h2 b z
        · rw [q1 i h2] at z
          exact k2 i ((List.mem_append.mp hi).resolve_left h2) b z
      · rcases List.mem_append.mp hi with z | z
        · exact q4 i z
        · exact k4 i z
      · have a1 := wipe_more k3 Is2
        rw [wipe_app, wipe_comm, q3, wipe_comm, ← wipe_app, a1]
  · cases hb
theorem vg_tup {k n : Nat} (hc : X.calm = true) (h : VGs X F R NM R' A fl Is tgs bs) (hn : (assignEach tgs X.env).length = n := by rfl) (hst : (assignEach tgs X.env).findIdx? (·.1) = none := by rfl) :
    VG X F R NM R' A fl Is (.Tuple tgs k pos) (bTup n bs) := by
  obtain ⟨g, p, s⟩ := h.ex
  refine ⟨_, pg_tup hc p hn hst, fun PH hP σ H e S v d T Q e' Hs r t hf h0 hb q => ?_⟩
  unfold bTup at hb
  split at hb
  · rename_i ds
    split at hb
    · rename_i hl
      rcases t.rv with ⟨_, _, z, _⟩ | z
      · cases z
      · cases z with
        | @tup a xs _ h1 h2 =>
          refine ⟨a, xs, rfl, SqT.of (res_some h1).2, by rw [h2.length]; exact hl, ?_⟩
          exact s PH hP σ H e S xs ds T Q e' Hs r h2 (t.non (.inr .non)) hf h0 hb q
    · cases hb
  · cases hb
def sAsg (da : Ev → Option (D × Ev)) (bd : D → Ev → Option Ev) : Ev → Option Out := fun e => match da e with
  | some (d, e') => (bd d e').map Out.nx
  | none => none
theorem vs_asg {da : Ev → Option (D × Ev)} (h : VE X F R NM a da A M) (hg : VG X F R NM Rn A false Is tg bd) (hs : swapsWithSole [tg] a pos.line X.env = pure false := by rfl) (hw : swappedStores [tg] a X.env = pure none := by rfl)
    (h1 : (assignEach [tg] X.env).map (·.2) = [assign tg X.env] := by rfl) : VS X F R NM Rn Rb al (.Assign [tg] a pos) (sAsg da bd) := by
  obtain ⟨t, p, s⟩ := h.ex
  obtain ⟨g, pg, sg⟩ := hg.ex
  refine ⟨_, ps_asg p pg hs hw h1, fun PH hP σ H e S D o r hd q => ?_⟩
  unfold sAsg at hd
  split at hd
  · rename_i d e1 hx
    obtain ⟨e2, he2, rfl⟩ := Option.map_eq_some_iff.mp hd
    exact s PH hP σ H e S _ _ _ r hx fun v H' S' T st r' t' => sg PH hP σ H' _ S' v d T _ e2 H r' t' (fun z => nomatch z) r.dom he2 fun σ' S2 r2 _ _ _ _ => q σ' H' S2 r2
  · cases hd
end

def StH (K : PySem.W.Frag) (v : List V) (d : List D) (ob : List (Addr × HO)) (H : Hp) (T : Addr → Prop) : Prop := RVs K (Res T H) v d ∧ ∀ a o, (a, o) ∈ ob → T a ∧ H a = some o
structure Wk (K : PySem.W.Frag) (J : It) (v : List V) (d : List D) (ob : List (Addr × HO)) (items : List D) : Prop where
  go : ∀ i H T, i < items.length → StH K v d ob H T → J.go i H
  stop : ∀ H T, StH K v d ob H T → J.stop items.length H
  yld : ∀ i H T x H', i < items.length → StH K v d ob H T → J.yld i H x H' → ∃ d', items[i]? = some d' ∧ ∃ T', Gr K H T H' T' x d'
structure Ti (K : PySem.W.Frag) (Hs H : Hp) (S : FPs) (A : List Nat) (v : List V) (d : List D) (ob : List (Addr × HO)) (T : Addr → Prop) : Prop where
  rv : RVs K (Res T H) v d
  thr : ∀ b, T b → H b ≠ none
  prv : ∀ b, T b → Imm H b ∨ (∃ k ∈ A, S k b) ∨ (Hs b = none ∧ (∀ k, ¬ S k b) ∧ NFrz H b)
  obs : ∀ a o, (a, o) ∈ ob → T a ∧ H a = some o
  okd : ∀ a o, (a, o) ∈ ob → ∀ kvs, o ≠ .dK kvs
def PopOk (F : Fx) (PH : List Ph) (ob : List (Addr × HO)) : Prop :=
  (∀ a o u, (a, .frz o u) ∈ ob → (∃ p, p < F.np ∧ p ∉ F.mu ∧ F.S0 p a) ∨ ∃ p ∈ PH, ∃ o u, (a, .frz o u) ∈ p.ob) ∧
  ∀ b o od, F.H0 b = some o → (Imm F.H0 b ∨ ∀ m ∈ F.mu, ¬ F.S0 m b) → (b, .frz od o) ∈ ob → ∃ p ∈ PH, ∃ od, (b, .frz od o) ∈ p.ob
theorem PopOk.nf {F : Fx} {PH : List Ph} {ob : List (Addr × HO)} (h : ∀ a o u, (a, .frz o u) ∉ ob) : PopOk F PH ob := ⟨fun a o u z => absurd z (h a o u), fun b o od _ _ z => absurd z (h b od o)⟩
def SI (K : PySem.W.Frag) (F : Fx) (R : Rl) (NM : List Nat) (wi : TI) (den : Ev → Option (List D × Ev)) (A M : List Nat) : Prop :=
  ∀ (PH : List Ph), PH.map (·.ix) = NM → ∀ (σ : St) (H : Hp) (e : Ev) (S : FPs) (Rk : It → Hp → Prop) (items : List D) (e' : Ev), Rp K F R PH H σ e S → den e = some (items, e') →
    (∀ J v d ob H' S' T, Stp M H S H' S' → Rp K F R PH H' σ e' S' → Ti K H H' S' A v d ob T → Wk K J v d ob items → PopOk F PH ob → Rk J H') → wi σ H Rk
structure VI (X : Cx) (F : Fx) (R : Rl) (NM : List Nat) (tg it : Expr) (den : Ev → Option (List D × Ev)) (A M : List Nat) : Prop where
  ex : ∃ wi, PI X tg it wi ∧ SI X.K F R NM wi den A M

section
variable {K : PySem.W.Frag} {F : Fx} {R R' : Rl} {PH : List Ph} {H H' : Hp} {σ : St} {e e' : Ev} {S S' : FPs}
theorem Tm.ti {Hs : Hp} {A : List Nat} {v : V} {d : D} {T : Addr → Prop} (t : Tm K Hs H S A v d T) : Ti K Hs H S A [v] [d] [] T :=
  ⟨.cons t.rv .nil, t.thr, t.prv, (fun a o z => nomatch z), (fun a o z => nomatch z)⟩
theorem Rp.push {ix : Nat} {A : List Nat} {v : List V} {d : List D} {ob : List (Addr × HO)} {T : Addr → Prop} {Hs : Hp} (r : Rp K F R PH H σ e S) (t : Ti K Hs H S A v d ob T) (h0 : ∀ b, F.H0 b ≠ none → Hs b ≠ none) (hi : F.nl + F.np ≤ ix) (hm : ∀ p ∈ PH, p.ix ≠ ix) (hmu : ∀ m ∈ F.mu, m ≠ ix) :
    Rp K F (rset R ix A) (⟨ix, v, d, ob, t.okd⟩ :: PH) H σ e (setS S ix T) := by
  have h0' : ∀ b, Hs b = none → F.H0 b = none := fun b z => by
    cases w : F.H0 b with
    | none => rfl
    | some y => exact absurd z (h0 b (by rw [w]; exact fun q => nomatch q))
  have one : ∀ j b, j ≠ ix → rel (rset R ix A) ix j = false → T b → S j b → Imm H b := fun j b hj hr tb sb => by
    obtain ⟨q1, q2⟩ := rset_i hj hr
    rcases t.prv b tb with z | ⟨k, hk, z⟩ | ⟨_, z, _⟩
    · exact z
    · exact r.dis k j b (fun w => q1 (w ▸ hk)) (q2 k hk) z sb
    · exact absurd sb (z j)
  have lt : ∀ j d', e[j]? = some (some d') → j ≠ ix := fun j d' q z => by
    have := (List.getElem?_eq_some_iff.mp q).1
    rw [r.len] at this; omega
  refine ⟨r.len, r.lenS, fun j d' q => ?_, fun j k b h1 h2 h3 h4 => ?_, fun j b q => ?_, fun b o q1 q2 => ?_, r.dom, fun j b q => ?_, fun p hp hpm => ?_, fun j b q => ?_, fun p hp => ?_, r.mup, fun m hm' b q => ?_, fun m hm' b q => ?_, fun k b h1 h2 => by
    rw [setS_ne (fun z => h2 _ List.mem_cons_self z.symm)]; exact r.un k b h1 fun p hp => h2 p (List.mem_cons_of_mem _ hp)⟩
  · obtain ⟨w, q1, q2⟩ := r.rep j d' q
    exact ⟨w, q1, by rw [setS_ne (lt j d' q)]; exact q2⟩
  · by_cases hj : j = ix
    · subst hj
      rw [setS_eq] at h3
      rw [setS_ne (Ne.symm h1)] at h4
      exact one k b (Ne.symm h1) h2 h3 h4
    · by_cases hk : k = ix
      · subst hk
        rw [setS_eq] at h4
        rw [setS_ne hj] at h3
        exact one j b hj (by rw [rel_comm]; exact h2) h4 h3
      · rw [setS_ne hj] at h3; rw [setS_ne hk] at h4
        exact r.dis j k b h1 (rset_o hj hk h2) h3 h4
  · by_cases hj : j = ix
    · subst hj; rw [setS_eq] at q; exact t.thr b q
    · rw [setS_ne hj] at q; exact r.thr j b q
  · exact (r.frm b o q1 q2).imp_right fun ⟨p, hp, z⟩ => ⟨p, List.mem_cons_of_mem _ hp, z⟩
  · by_cases hj : j = ix
    · subst hj; rw [setS_eq] at q
      rcases t.prv b q with z | ⟨k, hk, z⟩ | ⟨z, _, _⟩
      · exact .inl z
      · exact r.prv k b z
      · exact .inr (.inl (h0' b z))
    · rw [setS_ne hj] at q; exact r.prv j b q
  · rw [setS_ne (by omega)]; exact r.phm p hp hpm
  · have sp : ∀ p, p < F.np → S (F.nl + p) b → setS S ix T (F.nl + p) b := fun p hp z => by rw [setS_ne (by omega)]; exact z
    have up : NFrz H b ∨ (∃ p, p < F.np ∧ p ∉ F.mu ∧ S (F.nl + p) b) ∨ (∃ p ∈ PH, ∃ o u, (b, .frz o u) ∈ p.ob) → NFrz H b ∨ (∃ p, p < F.np ∧ p ∉ F.mu ∧ setS S ix T (F.nl + p) b) ∨ ∃ p ∈ (⟨ix, v, d, ob, t.okd⟩ :: PH : List Ph), ∃ o u, (b, .frz o u) ∈ p.ob := fun z => by
      rcases z with w | ⟨p, hp, hpm, w⟩ | ⟨p, hp, w⟩
      · exact .inl w
      · exact .inr (.inl ⟨p, hp, hpm, sp p hp w⟩)
      · exact .inr (.inr ⟨p, List.mem_cons_of_mem _ hp, w⟩)
    by_cases hj : j = ix
    · subst hj; rw [setS_eq] at q
      rcases t.prv b q with z | ⟨k, hk, z⟩ | ⟨_, _, z⟩
      · exact .inl z.nfrz
      · exact up (r.fz k b z)
      · exact .inl z
    · rw [setS_ne hj] at q
      exact up (r.fz j b q)
  · rcases List.mem_cons.mp hp with rfl | hp
    · exact ⟨hi, by rw [setS_eq]; exact t.rv, fun a o z => by rw [setS_eq]; exact t.obs a o z⟩
    · rw [setS_ne (hm p hp)]; exact r.ph p hp
  · rw [setS_ne (hmu m hm')] at q; exact r.mus m hm' b q
  · rw [setS_ne (hmu m hm')]; exact r.mgr m hm' b q
def dropR (R : Rl) (ix : Nat) : Rl := R.filter fun p => p.1 != ix && p.2 != ix
theorem dropR_o {R : Rl} {ix j k : Nat} (hj : j ≠ ix) (hk : k ≠ ix) (h : rel (dropR R ix) j k = false) : rel R j k = false := by
  cases e : rel R j k with
  | false => rfl
  | true =>
    have : rel (dropR R ix) j k = true := by
      rw [rel_mem]
      unfold dropR
      rcases rel_mem.mp e with z | z
      · exact .inl (List.mem_filter.mpr ⟨z, by simp [hj, hk]⟩)
      · exact .inr (List.mem_filter.mpr ⟨z, by simp [hj, hk]⟩)
    rw [h] at this; cases this
theorem Rp.pop {p0 : Ph} (r : Rp K F R (p0 :: PH) H σ e S) (hm : ∀ p ∈ PH, p.ix ≠ p0.ix) (hmu : ∀ m ∈ F.mu, m ≠ p0.ix) (hpo : PopOk F PH p0.ob) :
    Rp K F (dropR R p0.ix) PH H σ e (setS S p0.ix fun _ => False) := by
  obtain ⟨l0, _, lo⟩ := r.ph p0 List.mem_cons_self
  have lt : ∀ j d', e[j]? = some (some d') → j ≠ p0.ix := fun j d' q z => by
    have := (List.getElem?_eq_some_iff.mp q).1
    rw [r.len] at this; omega
  have ne : ∀ j b, setS S p0.ix (fun _ => False) j b → j ≠ p0.ix ∧ S j b := fun j b h => by
    by_cases hj : j = p0.ix
    · rw [hj, setS_eq] at h; exact h.elim
    · rw [setS_ne hj] at h; exact ⟨hj, h⟩
  refine ⟨r.len, r.lenS, fun j d' q => ?_, fun j k b h1 h2 h3 h4 => ?_, fun j b q => r.thr j b (ne j b q).2, fun b o q1 q2 => ?_, r.dom, fun j b q => r.prv j b (ne j b q).2, fun p hp hpm => ?_, fun j b q => ?_, fun p hp => ?_, r.mup, fun m hm' b q => r.mus m hm' b (ne m b q).2, fun m hm' b q => ?_, fun k b h1 h2 h => r.un k b h1 (fun p hp => (List.mem_cons.mp hp).elim (fun z => by rw [z]; exact Ne.symm (ne k b h).1) fun z => h2 p z) (ne k b h).2⟩
  · obtain ⟨w, q1, q2⟩ := r.rep j d' q
    exact ⟨w, q1, by rw [setS_ne (lt j d' q)]; exact q2⟩
  · obtain ⟨n3, h3⟩ := ne j b h3
    obtain ⟨n4, h4⟩ := ne k b h4
    exact r.dis j k b h1 (dropR_o n3 n4 h2) h3 h4
  · rcases r.frm b o q1 q2 with z | ⟨p, hp, od, z⟩
    · exact .inl z
    · rcases List.mem_cons.mp hp with rfl | hp
      · exact .inr (hpo.2 b o od q1 q2 z)
      · exact .inr ⟨p, hp, od, z⟩
  · rw [setS_ne (by omega)]; exact r.phm p hp hpm
  · obtain ⟨nj, q'⟩ := ne j b q
    rcases r.fz j b q' with w | ⟨p, hp, hpm, w⟩ | ⟨p, hp, o, u, w⟩
    · exact .inl w
    · exact .inr (.inl ⟨p, hp, hpm, by rw [setS_ne (by omega)]; exact w⟩)
    · rcases List.mem_cons.mp hp with rfl | hp
      · rcases hpo.1 _ _ _ w with ⟨p, hp, hpm, z⟩ | z
        · exact .inr (.inl ⟨p, hp, hpm, by rw [setS_ne (by omega), r.phm p hp hpm]; exact z⟩)
        · exact .inr (.inr z)
      · exact .inr (.inr ⟨p, hp, o, u, w⟩)
  · obtain ⟨l, q⟩ := r.ph p (List.mem_cons_of_mem _ hp)
    rw [setS_ne (hm p hp)]; exact ⟨l, q⟩
  · rw [setS_ne (hmu m hm')]; exact r.mgr m hm' b q
theorem Fin.pop {p0 : Ph} {al : List Nat} {v : V} {d : D} {T : Addr → Prop} (f : Fin K F (p0 :: PH) al H S v d T e) (hpo : PopOk F PH p0.ob) : Fin K F PH al H S v d T e := by
  refine ⟨fun b o q1 q2 => ?_, f.dom, f.rv, f.thr, fun b tb => ?_, f.out, f.mth, f.mgr, f.mdis, fun p hp => f.lks p (List.mem_cons_of_mem _ hp)⟩
  · rcases f.keep b o q1 q2 with z | ⟨p, hp, od, z⟩
    · exact .inl z
    · rcases List.mem_cons.mp hp with rfl | hp
      · exact .inr (hpo.2 b o od q1 q2 z)
      · exact .inr ⟨p, hp, od, z⟩
  · refine (f.prv b tb).imp_right (Or.imp_left fun ⟨z1, z2, z3⟩ => ⟨z1, z2, z3.imp_right fun ⟨p, hp, o, u, z⟩ => ?_⟩)
    rcases List.mem_cons.mp hp with rfl | hp
    · rcases hpo.1 _ _ _ z with ⟨p, hp, hpm, w⟩ | w
      · exact absurd z1 (F.s0 p b w)
      · exact w
    · exact ⟨p, hp, o, u, z⟩
end

def forL (bd : D → Ev → Option Ev) (body : Ev → Option Out) : List D → Ev → Option Out
  | [], e => some (.nx e)
  | d :: ds, e => match bd d e with
    | some e1 => match body e1 with
      | some (.nx e2) => forL bd body ds e2
      | some (.ct e2) => forL bd body ds e2
      | some (.bk e2) => some (.nx e2)
      | some (.rt r e2) => some (.rt r e2)
      | none => none
    | none => none
def sFor (di : Ev → Option (List D × Ev)) (bd : D → Ev → Option Ev) (body : Ev → Option Out) : Ev → Option Out := fun e => match di e with
  | some (items, e1) => forL bd body items e1
  | none => none
def forOk (F : Fx) (NM : List Nat) (ix : Nat) : Bool := decide (F.nl + F.np ≤ ix) && NM.all (· != ix) && F.mu.all (· != ix)
def bFl (fl : Bool) (bd : D → Ev → Option Ev) : D → Ev → Option Ev := fun d e => if fl && !d.flat then none else bd d e
section
variable {X : Cx} {F : Fx} {R R1 R2 Rb Rl' : Rl} {NM : List Nat} {A Is M : List Nat} {fl : Bool} {tg it : Expr} {pos : Pos} {bd : D → Ev → Option Ev} {al : List Nat} {di : Ev → Option (List D × Ev)} {body : Ev → Option Out} {sts : List Stmt}
theorem item_tm {K : PySem.W.Frag} {PH : List Ph} {H H' : Hp} {σ : St} {e : Ev} {S : FPs} {R : Rl} {T T' : Addr → Prop} {x : V} {d : D} {ix : Nat} (r : Rp K F R PH H σ e S) (g : Gr K H T H' T' x d) (hT : ∀ b, T b → S ix b) :
    Tm K H H' S [ix] x d T' := g.tm r (fun b h => h) (fun b tb => r.thr ix b (hT b tb)) fun b tb => .inr (.inl ⟨ix, by simp, hT b tb⟩)
theorem item_fl {K : PySem.W.Frag} {Hs H : Hp} {S : FPs} {x : V} {d : D} {T : Addr → Prop} {ix : Nat} {e e' : Ev} (t : Tm K Hs H S [ix] x d T) (h : bFl fl bd d e = some e') : ∃ T', Tm K Hs H S (if fl then [] else [ix]) x d T' ∧ (fl = true → ∀ b, T' b → Imm H b) ∧ (∀ b, T' b → T b) ∧ bd d e = some e' := by
  unfold bFl at h
  split at h
  · cases h
  · rename_i hc
    cases hfl : fl with
    | false => exact ⟨T, t, (fun z => nomatch z), fun b z => z, h⟩
    | true =>
      rw [hfl] at hc
      have hf : d.flat = true := by simpa using hc
      exact ⟨_, t.flat hf, fun _ b z => z.2, fun b z => z.1, h⟩
def forT (g : TG) (tb : TS) (J : It) (D : Ends) (σ : St) (H1 : Hp) : Prop := ∃ W : Nat → Nat → St → Hp → Prop, (∃ m, W 0 m σ H1) ∧ ∀ (i m : Nat) (σ : St) (H : Hp), W i m σ H → J.stop i H ∧ D.nx σ H ∨
  J.go i H ∧ ∃ N : St → Hp → Prop, (∀ (σ' : St) (H' : Hp), N σ' H' → ∃ m', m' < m ∧ W (i + 1) m' σ' H') ∧ ∀ (x : V) (H' : Hp), J.yld i H x H' → g x σ H' fun σ2 H2 => tb { nx := N, rt := D.rt, bk := D.nx, ct := N } σ2 H2
theorem for_core {K : PySem.W.Frag} {g : TG} {tb : TS} {PH : List Ph} {p0 : Ph} {J : It} {D : Ends} {o : Out} {items : List VD.D} {σ : St} {H1 : Hp} {e1 : Ev} {S1 : FPs} (sg : SG K F Rl' (p0.ix :: NM) R1 (if fl then [] else [p0.ix]) fl Is g bd) (sb : SS K F R1 (p0.ix :: NM) R2 Rl' al tb body) (w2 : subR R2 Rl' = true) (hP : PH.map (·.ix) = NM)
    (wk : Wk K J p0.v p0.d p0.ob items) (r1 : Rp K F Rl' (p0 :: PH) H1 σ e1 S1) (hd : forL (bFl fl bd) body items e1 = some o) (endN : ∀ e S H σ, Rp K F Rl' (p0 :: PH) H σ e S → o = .nx e → D.nx σ H) (endR : ∀ d e v H S T, Fin K F (p0 :: PH) al H S v d T e → o = .rt d e → D.rt v H) : forT g tb J D σ H1 := by
  have hP' : (p0 :: PH : List Ph).map (·.ix) = p0.ix :: NM := by rw [List.map_cons, hP]
  have stH : ∀ {e : Ev} {S : FPs} {H : Hp} {σ : St} {R : Rl}, Rp K F R (p0 :: PH) H σ e S → StH K p0.v p0.d p0.ob H (S p0.ix) := fun r => (r.ph _ List.mem_cons_self).2
  refine ⟨fun i m σ H => m = items.length - i ∧ i ≤ items.length ∧ ∃ e S, Rp K F Rl' (p0 :: PH) H σ e S ∧ forL (bFl fl bd) body (items.drop i) e = some o,
    ⟨_, rfl, Nat.zero_le _, e1, S1, r1, by rw [List.drop_zero]; exact hd⟩, ?_⟩
  rintro i m σ2 H2 ⟨rfl, hi, e2, S2, r2, h2⟩
  by_cases hlt : i < items.length
  · refine .inr ⟨wk.go i H2 _ hlt (stH r2), fun σ' H' => ∃ e S, Rp K F Rl' (p0 :: PH) H' σ' e S ∧ forL (bFl fl bd) body (items.drop (i + 1)) e = some o, fun σ' H' z => ⟨items.length - (i + 1), by omega, rfl, hlt, z⟩, fun x H3 y => ?_⟩
    obtain ⟨d', hd', T', gr⟩ := wk.yld i H2 _ x H3 hlt (stH r2) y
    have hdrop : items.drop i = d' :: items.drop (i + 1) := by
      obtain ⟨_, e⟩ := List.getElem?_eq_some_iff.mp hd'
      rw [← e]; exact List.drop_eq_getElem_cons hlt
    rw [hdrop] at h2
    unfold forL at h2
    split at h2
    · rename_i e3 hbd
      have tm := item_tm (ix := p0.ix) r2 gr fun b z => z
      obtain ⟨T2, tm, hfl, _, hbd⟩ := item_fl tm hbd
      refine sg _ hP' σ2 H3 e2 S2 x d' T2 _ e3 H2 (r2.same gr.same) tm hfl r2.dom hbd fun σ4 S4 r4 _ _ _ _ => ?_
      split at h2
      · rename_i e4 hbo
        exact sb _ hP' σ4 H3 e3 S4 _ _ r4 hbo fun σ' H' S' r' => ⟨_, S', r'.weak w2, h2⟩
      · rename_i e4 hbo
        exact sb _ hP' σ4 H3 e3 S4 _ _ r4 hbo fun σ' H' S' r' => ⟨_, S', r', h2⟩
      · rename_i e4 hbo
        exact sb _ hP' σ4 H3 e3 S4 _ _ r4 hbo fun σ' H' S' r' => endN _ _ _ _ r' (Option.some.inj h2).symm
      · rename_i rr e4 hbo
        exact sb _ hP' σ4 H3 e3 S4 _ _ r4 hbo fun v' H' S' T' f => endR _ _ _ _ _ _ f (Option.some.inj h2).symm
      · cases h2
    · cases h2
  · have e : i = items.length := by omega
    subst e
    rw [List.drop_length] at h2
    exact .inl ⟨wk.stop H2 _ (stH r2), endN _ _ _ _ r2 (by unfold forL at h2; exact (Option.some.inj h2).symm)⟩
theorem forOk_out {F : Fx} {NM : List Nat} {ix : Nat} {PH : List Ph} (ok : forOk F NM ix = true) (hP : PH.map (·.ix) = NM) : F.nl + F.np ≤ ix ∧ (∀ p ∈ PH, p.ix ≠ ix) ∧ ∀ m ∈ F.mu, m ≠ ix := by
  unfold forOk at ok
  simp only [Bool.and_eq_true, decide_eq_true_eq, List.all_eq_true, bne_iff_ne, ne_eq] at ok
  exact ⟨ok.1.1, fun p hp => ok.1.2 _ (by rw [← hP]; exact List.mem_map_of_mem hp), ok.2⟩
theorem vs_for (ix : Nat) (Rl' : Rl) (hp : PassesOwn (model X.prog X.w) X.A X.env X.xe) (hc : X.calm = true) (hi : VI X F R NM tg it di A M) (hg : VG X F Rl' (ix :: NM) R1 (if fl then [] else [ix]) fl Is tg bd) (hb : VB X F R1 (ix :: NM) R2 Rl' al sts body)
    (ok : forOk F NM ix = true := by rfl) (w1 : subR (rset R ix A) Rl' = true := by rfl) (w2 : subR R2 Rl' = true := by rfl) (hs : ∀ x, foldedSetIterable it X.env x = pure x := by intro _; rfl) :
    VS X F R NM (dropR Rl' ix) Rb al (.For tg it sts [] pos) (sFor di (bFl fl bd) body) := by
  obtain ⟨wi, pi, si⟩ := hi.ex
  obtain ⟨g, pg, sg⟩ := hg.ex
  obtain ⟨t, pb, sb⟩ := hb.ex
  refine ⟨_, ps_for hp hc pi pg pb hs, fun PH hP σ H e S D o r hd q => ?_⟩
  obtain ⟨ok1, hix, ok3⟩ := forOk_out ok hP
  unfold sFor at hd
  split at hd
  · rename_i items e1 hx
    refine si PH hP σ H e S _ _ _ r hx fun J v d ob H1 S1 T st1 r1 t1 wk nf => ?_
    refine for_core (p0 := ⟨ix, v, d, ob, t1.okd⟩) sg sb w2 hP wk ((r1.push t1 r.dom ok1 hix ok3).weak w1) hd (fun e S H σ r ho => ?_) fun d e v H S T f ho => ?_
    · subst ho; exact q σ H _ (r.pop (p0 := ⟨ix, _, _, ob, t1.okd⟩) hix ok3 nf)
    · subst ho; exact q v H S T (f.pop nf)
  · cases hd

def whileN (dt : Ev → Option (Bool × Ev)) (body : Ev → Option Out) : Nat → Ev → Option Out
  | 0, _ => none
  | n + 1, e => match dt e with
    | some (false, e1) => some (.nx e1)
    | some (true, e1) => match body e1 with
      | some (.nx e2) => whileN dt body n e2
      | some (.ct e2) => whileN dt body n e2
      | some (.bk e2) => some (.nx e2)
      | some (.rt r e2) => some (.rt r e2)
      | none => none
    | none => none
theorem whileN_mono {dt : Ev → Option (Bool × Ev)} {body : Ev → Option Out} : ∀ {n : Nat} {e : Ev} {o : Out}, whileN dt body n e = some o → ∀ m, n ≤ m → whileN dt body m e = some o
  | 0, _, _, h, _, _ => nomatch h
  | n + 1, e, o, h, 0, hm => absurd hm (by omega)
  | n + 1, e, o, h, m + 1, hm => by
    unfold whileN at h ⊢
    split at h
    · exact h
    · split at h
      · exact whileN_mono h m (by omega)
      · exact whileN_mono h m (by omega)
      · exact h
      · exact h
      · cases h
    · cases h
open Classical in
noncomputable def sWhile (dt : Ev → Option (Bool × Ev)) (body : Ev → Option Out) : Ev → Option Out := fun e =>
  if h : ∃ o n, whileN dt body n e = some o then some h.choose else none
theorem sWhile_some {dt : Ev → Option (Bool × Ev)} {body : Ev → Option Out} {e : Ev} {o : Out} {n : Nat} (h : whileN dt body n e = some o) : sWhile dt body e = some o := by
  have hh : ∃ o n, whileN dt body n e = some o := ⟨o, n, h⟩
  unfold sWhile
  rw [dif_pos hh]
  obtain ⟨m, hm⟩ := hh.choose_spec
  have a := whileN_mono hm (max n m) (Nat.le_max_right _ _)
  have b := whileN_mono h (max n m) (Nat.le_max_left _ _)
  rw [a] at b; exact b
theorem sWhile_out {dt : Ev → Option (Bool × Ev)} {body : Ev → Option Out} {e : Ev} {o : Out} (h : sWhile dt body e = some o) : ∃ n, whileN dt body n e = some o := by
  unfold sWhile at h
  split at h
  · rename_i hh
    cases h
    exact hh.choose_spec
  · cases h
theorem vs_while {dt : Ev → Option (Bool × Ev)} (Rl' : Rl) (hp : PassesOwn (model X.prog X.w) X.A X.env X.xe) (ht : VT X F Rl' NM it dt M) (hb : VB X F Rl' NM R2 Rl' al sts body) (w1 : subR R Rl' = true := by rfl) (w2 : subR R2 Rl' = true := by rfl) :
    VS X F R NM Rl' Rb al (.While it sts [] pos) (sWhile dt body) := by
  obtain ⟨t, pt, s⟩ := ht.ex
  obtain ⟨tb, pb, sb⟩ := hb.ex
  refine ⟨_, ps_while hp pt pb, fun PH hP σ H e S D o r hd q => ?_⟩
  obtain ⟨n, hn⟩ := sWhile_out hd
  refine ⟨fun m σ H => ∃ e S, Rp X.K F Rl' PH H σ e S ∧ whileN dt body m e = some o, ⟨n, e, S, r.weak w1, hn⟩, ?_⟩
  rintro m σ1 H1 ⟨e1, S1, r1, h1⟩
  cases m with
  | zero => cases h1
  | succ m =>
    unfold whileN at h1
    split at h1
    · rename_i e2 hx
      refine s PH hP σ1 H1 e1 S1 _ _ _ r1 hx fun H2 S2 st2 r2 => ?_
      rw [if_neg Bool.false_ne_true]
      cases h1
      exact q σ1 H2 S2 r2
    · rename_i e2 hx
      refine s PH hP σ1 H1 e1 S1 _ _ _ r1 hx fun H2 S2 st2 r2 => ?_
      rw [if_pos rfl]
      refine ⟨fun σ' H' => ∃ e S, Rp X.K F Rl' PH H' σ' e S ∧ whileN dt body m e = some o, fun σ' H' z => ⟨m, Nat.lt_succ_self m, z⟩, ?_⟩
      split at h1
      · rename_i e4 hbo
        exact sb PH hP σ1 H2 e2 S2 _ _ r2 hbo fun σ' H' S' r' => ⟨_, S', r'.weak w2, h1⟩
      · rename_i e4 hbo
        exact sb PH hP σ1 H2 e2 S2 _ _ r2 hbo fun σ' H' S' r' => ⟨_, S', r', h1⟩
      · rename_i e4 hbo
        cases h1
        exact sb PH hP σ1 H2 e2 S2 _ _ r2 hbo fun σ' H' S' r' => q σ' H' S' r'
      · rename_i rr e4 hbo
        cases h1
        exact sb PH hP σ1 H2 e2 S2 _ _ r2 hbo fun v' H' S' T' f => q v' H' S' T' f
      · cases h1
    · cases h1
end
end VD

set_option Elab.async false
set_option linter.all false
set_option maxRecDepth 100000
set_option maxHeartbeats 4000000
namespace VD
open PySem PySem.Spec L2 MC
open PyProof.Rows hiding St

abbrev Bk (X : Cx) (scope : Scope) (b : Shared × Hp × Addr × List (Str × Addr) × List Addr) : Cx := X.blk b.1 b.2.1 scope (compEnvC scope b.2.2.2.1 b.2.2.1 X.env) b.2.2.2.2
section
variable {X : Cx} {scope : Scope} {F : Fx} {R R' : Rl} {NM : List Nat} {A M Is : List Nat} {fl : Bool} {ex tg : Expr}
theorem blk_e {den : Ev → Option (D × Ev)} (h : ∀ b, VE (Bk X scope b) F R NM ex den A M) : ∃ t, (∀ b, PE (Bk X scope b) ex t) ∧ SE X.K F R NM t den A M := by
  refine ⟨fun σ H Q => ∀ b, (h b).ex.choose σ H Q, fun b => ⟨fun pins s σ H Q I q => (h b).ex.choose_spec.1.run pins s σ H Q I (q b)⟩, fun PH hP σ H e S Q d e' r hd q b => ?_⟩
  exact (h b).ex.choose_spec.2 PH hP σ H e S Q d e' r hd q
theorem blk_g {bd : D → Ev → Option Ev} (h : ∀ b, VG (Bk X scope b) F R NM R' A fl Is tg bd) : ∃ g, (∀ b, PG (Bk X scope b) tg g) ∧ SG X.K F R NM R' A fl Is g bd := by
  refine ⟨fun v σ H Q => ∀ b, (h b).ex.choose v σ H Q, fun b => ⟨fun pins s σ H v u Q I r q => (h b).ex.choose_spec.1.run pins s σ H v u Q I r (q b)⟩, fun PH hP σ H e S v d T Q e' Hs r t hf h0 hb q b => ?_⟩
  exact (h b).ex.choose_spec.2 PH hP σ H e S v d T Q e' Hs r t hf h0 hb q
structure VTs (X : Cx) (F : Fx) (R : Rl) (NM : List Nat) (es : List Expr) (den : Ev → Option (Bool × Ev)) (M : List Nat) : Prop where
  ex : ∃ t, PTs X es t ∧ ST X.K F R NM t den M
theorem blk_t {es : List Expr} {den : Ev → Option (Bool × Ev)} (h : ∀ b, VTs (Bk X scope b) F R NM es den M) : ∃ t, (∀ b, PTs (Bk X scope b) es t) ∧ ST X.K F R NM t den M := by
  refine ⟨fun σ H Q => ∀ b, (h b).ex.choose σ H Q, fun b => ⟨fun pins s σ H Q I q => (h b).ex.choose_spec.1.run pins s σ H Q I (q b)⟩, fun PH hP σ H e S Q d e' r hd q b => ?_⟩
  exact (h b).ex.choose_spec.2 PH hP σ H e S Q d e' r hd q
def dYes : Ev → Option (Bool × Ev) := fun e => some (true, e)
theorem vts_nil : VTs X F R NM [] dYes [] := ⟨_, pts_nil, fun PH hP σ H e S Q d e' r hd q => by cases hd; exact q H S Stp.refl r⟩
theorem vts_one {dt : Ev → Option (Bool × Ev)} (h : VT X F R NM ex dt M) : VTs X F R NM [ex] dt M := by
  obtain ⟨t, p, s⟩ := h.ex
  exact ⟨_, pts_one p, s⟩
end

def wipeE (e : Ev) : List Nat → Ev
  | [] => e
  | v :: vs => (wipeE e vs).set v none
def isRo : D → Bool
  | .ro _ => true
  | _ => false
def goLc (vs : List Nat) (bd : D → Ev → Option Ev) (dt : Ev → Option (Bool × Ev)) (da : Ev → Option (D × Ev)) : List D → Ev → Option (List D × Ev)
  | [], e => some ([], e)
  | d :: ds, e => match bd d e with
    | some e1 => match dt e1 with
      | some (true, e2) => match da e2 with
        | some (y, e3) => if isRo y then none else match goLc vs bd dt da ds (wipeE e3 vs) with
          | some (ys, e4) => some (y :: ys, e4)
          | none => none
        | none => none
      | some (false, e2) => goLc vs bd dt da ds (wipeE e2 vs)
      | none => none
    | none => none
def dLc (vs : List Nat) (di : Ev → Option (List D × Ev)) (bd : D → Ev → Option Ev) (dt : Ev → Option (Bool × Ev)) (da : Ev → Option (D × Ev)) : Ev → Option (D × Ev) := fun e => match di e with
  | some (items, e1) => match goLc vs bd dt da items (wipeE e1 vs) with
    | some (ys, e2) => if ys.length ≤ sizeLine then some (.lst ys, e2) else none
    | none => none
  | none => none
theorem wipeE_len (e : Ev) : ∀ vs : List Nat, (wipeE e vs).length = e.length
  | [] => rfl
  | v :: vs => by unfold wipeE; rw [List.length_set, wipeE_len e vs]
theorem wipeE_get {e : Ev} {i : Nat} {d : D} : ∀ {vs : List Nat}, (wipeE e vs)[i]? = some (some d) → e[i]? = some (some d) ∧ i ∉ vs
  | [], h => ⟨h, by simp⟩
  | v :: vs, h => by
    unfold wipeE at h
    by_cases hk : v = i
    · subst hk
      by_cases hl : v < (wipeE e vs).length
      · rw [List.getElem?_set_self hl] at h; cases h
      · rw [List.getElem?_eq_none (by simpa using hl)] at h; cases h
    · rw [List.getElem?_set_ne hk] at h
      obtain ⟨h1, h2⟩ := wipeE_get h
      exact ⟨h1, by simp only [List.mem_cons, not_or]; exact ⟨fun z => hk z.symm, h2⟩⟩
def wipeS (S : FPs) (vs : List Nat) : FPs := fun k b => k ∉ vs ∧ S k b
section
variable {K : PySem.W.Frag} {F : Fx} {R R' : Rl} {PH : List Ph} {H H' : Hp} {σ : St} {e e' : Ev} {S S' : FPs}
theorem wipe_out' {σ : St} {i : Nat} : ∀ {vs : List Nat}, i ∉ vs → (wipe σ vs)[i]? = σ[i]?
  | [], _ => rfl
  | v :: vs, h => by
    unfold wipe
    rw [List.getElem?_set_ne (fun z => h (by rw [z]; exact List.mem_cons_self)), wipe_out' (fun z => h (List.mem_cons_of_mem _ z))]
theorem Rp.wipe {vs : List Nat} (r : Rp K F R PH H σ e S) (hv : ∀ i ∈ vs, i < F.nl ∧ i ∉ F.mu) : Rp K F R PH H (L2.wipe σ vs) (wipeE e vs) (wipeS S vs) := by
  have nl : ∀ i, F.nl ≤ i → wipeS S vs i = S i := fun i hi => by
    funext b; unfold wipeS
    have : i ∉ vs := fun z => by have := (hv i z).1; omega
    simp [this]
  refine ⟨by rw [wipeE_len]; exact r.len, by rw [wipe_length]; exact r.lenS, fun i d q => ?_, fun i j b h1 h2 h3 h4 => r.dis i j b h1 h2 h3.2 h4.2, fun i b q => r.thr i b q.2, r.frm, r.dom, fun i b q => r.prv i b q.2, fun p hp hpm => by rw [nl _ (by omega)]; exact r.phm p hp hpm, fun i b q => ?_, fun p hp => ?_, fun m hm => ?_, fun m hm b q => r.mus m hm b q.2, fun m hm b q => ⟨fun z => (hv m z).2 hm, r.mgr m hm b q⟩, fun k b h1 h2 h => r.un k b h1 h2 h.2⟩
  · obtain ⟨q1, q2⟩ := wipeE_get q
    obtain ⟨v, h1, h2⟩ := r.rep i d q1
    refine ⟨v, by rw [wipe_out' q2]; exact h1, h2.mono (res_up fun b sb => ⟨q2, sb⟩)⟩
  · rcases r.fz i b q.2 with z | ⟨p, hp, hpm, z⟩ | z
    · exact .inl z
    · exact .inr (.inl ⟨p, hp, hpm, by rw [nl _ (by omega)]; exact z⟩)
    · exact .inr (.inr z)
  · have := (r.ph p hp).1
    rw [nl _ (by omega)]; exact r.ph p hp
  · rw [wipe_out' (fun z => (hv m z).2 hm)]; exact r.mup m hm
theorem wipeE_none {e : Ev} : ∀ {vs : List Nat}, (∀ i ∈ vs, i < e.length) → ∀ i ∈ vs, (wipeE e vs)[i]? = some none
  | [], _, i, hi => nomatch hi
  | v :: vs, h, i, hi => by
    unfold wipeE
    by_cases hv : v = i
    · subst hv; rw [List.getElem?_set_self (by rw [wipeE_len]; exact h v List.mem_cons_self)]
    · rw [List.getElem?_set_ne hv]
      rcases List.mem_cons.mp hi with z | z
      · exact absurd z.symm hv
      · exact wipeE_none (fun j hj => h j (List.mem_cons_of_mem _ hj)) i z
theorem Rp.updF {D : Addr} {o : HO} (r : Rp K F R PH H σ e S) (h1 : ∀ k, ¬ S k D) (h2 : F.H0 D = none) : Rp K F R PH (upd H D o) σ e S := by
  have ne : ∀ k b, S k b → b ≠ D := fun k b q z => h1 k (z ▸ q)
  have up : ∀ k, Same (Res (S k) H) (Res (S k) (upd H D o)) := fun k => res_mono fun b y q e => ⟨q, by rw [upd_ne (ne k b q)]; exact e⟩
  have imm : ∀ k b, S k b → Imm H b → Imm (upd H D o) b := fun k b q h => h.imp fun xs z => by rw [upd_ne (ne k b q)]; exact z
  refine ⟨r.len, r.lenS, fun i d q => ?_, fun i j b a1 a2 a3 a4 => imm i b a3 (r.dis i j b a1 a2 a3 a4), fun i b q => by rw [upd_ne (ne i b q)]; exact r.thr i b q, fun b y q1 q2 => ?_, fun b q => thr_keep (r.dom b q), fun i b q => (r.prv i b q).imp_left (imm i b q), r.phm, fun i b q => ?_, fun p hp => ?_, r.mup, fun m hm b q => (r.mus m hm b q).imp_left (imm m b q), r.mgr, r.un⟩
  · obtain ⟨v, q1, q2⟩ := r.rep i d q
    exact ⟨v, q1, q2.mono (up i)⟩
  · refine (r.frm b y q1 q2).imp_left fun z => ?_
    rw [upd_ne (fun w => by rw [w, h2] at q1; cases q1)]; exact z
  · refine (r.fz i b q).imp_left fun z x u w => ?_
    rw [upd_ne (ne i b q)] at w; exact z x u w
  · obtain ⟨l, q1, q2⟩ := r.ph p hp
    exact ⟨l, q1.mono (up _), fun a y z => ⟨(q2 a y z).1, by rw [upd_ne (ne _ a (q2 a y z).1)]; exact (q2 a y z).2⟩⟩
end
end VD

set_option Elab.async false
set_option linter.all false
set_option maxRecDepth 100000
set_option maxHeartbeats 4000000
namespace VD
open PySem PySem.Spec L2 MC
open PyProof.Rows hiding St

theorem wipe_at {σ : St} {i : Nat} : ∀ {vs : List Nat}, i ∈ vs → (wipe σ vs)[i]? = if i < σ.length then some none else none
  | v :: vs, h => by
    unfold wipe
    by_cases hv : v = i
    · subst hv
      by_cases hl : v < σ.length
      · rw [List.getElem?_set_self (by rw [wipe_length]; exact hl), if_pos hl]
      · rw [if_neg hl, List.getElem?_eq_none (by rw [List.length_set, wipe_length]; omega)]
    · rw [List.getElem?_set_ne hv]
      exact wipe_at ((List.mem_cons.mp h).resolve_left fun z => hv z.symm)
theorem wipe_same {σ : St} {us vs : List Nat} (h : ∀ i, i ∈ us ↔ i ∈ vs) : wipe σ us = wipe σ vs := by
  apply List.ext_getElem?
  intro i
  by_cases hi : i ∈ us
  · rw [wipe_at hi, wipe_at ((h i).mp hi)]
  · rw [wipe_out' hi, wipe_out' (fun z => hi ((h i).mpr z))]
theorem wipe_twice {σ : St} {vs : List Nat} : wipe (wipe σ vs) vs = wipe σ vs := by
  apply List.ext_getElem?
  intro i
  by_cases hi : i ∈ vs
  · rw [wipe_at hi, wipe_at hi, wipe_length]
  · rw [wipe_out' hi]
def sameL (us vs : List Nat) : Bool := us.all (vs.contains ·) && vs.all (us.contains ·)
theorem sameL_out {us vs : List Nat} (h : sameL us vs = true) (i : Nat) : i ∈ us ↔ i ∈ vs := by
  unfold sameL at h
  simp only [Bool.and_eq_true, List.all_eq_true, List.contains_iff_mem] at h
  exact ⟨h.1 i, h.2 i⟩
theorem Tm.held {K : PySem.W.Frag} {F : Fx} {R : Rl} {PH : List Ph} {Hs H H' : Hp} {σ : St} {e : Ev} {S S' : FPs} {M A : List Nat} {v : V} {d : D} {T : Addr → Prop} (t : Tm K Hs H S A v d T) (r : Rp K F R PH H σ e S) (s : Stq M H S H' S') (c : clear R A M = true) :
    ∀ b o, T b → H b = some o → H' b = some o := fun b o tb eb => by
  rcases t.prv b tb with h | ⟨k, hk, h⟩ | ⟨_, h, _⟩
  · exact s.keep b o eb (.inl h)
  · by_cases hi : Imm H b
    · exact s.keep b o eb (.inl hi)
    · refine s.keep b o eb (.inr fun m hm q => hi ?_)
      obtain ⟨c1, c2⟩ := clear_ne c hk hm
      exact r.dis k m b c1 c2 h q
  · exact s.keep b o eb (.inr fun m _ => h m)

theorem turn_stp {K : PySem.W.Frag} {Hc H' H4 : Hp} {Sc S2 S4 : FPs} {T2 T' : Addr → Prop} {x : V} {d : D} {ix : Nat} {M Is vs : List Nat} (g : Gr K Hc (Sc ix) H' T' x d) (ht : ∀ b, T2 b → T' b) (hsame : ∀ i, i ∈ Is ↔ i ∈ vs) (h1 : ∀ k, k ∉ Is → S2 k = Sc k) (h0 : ∀ i ∈ vs, ∀ b, ¬ Sc i b) (hM : ∀ m ∈ M, m ∉ vs)
    (thr : ∀ k b, Sc k b → Hc b ≠ none) (st : Stp M H' S2 H4 S4) : Stp M Hc Sc H4 (wipeS S4 vs) := by
  have im : ∀ {b}, Imm Hc b → Imm H' b := fun h => h.imp fun xs z => g.same _ _ z
  refine ⟨⟨fun b o eb k => ?_, fun b hb => st.thr b (same_thr g.same b hb), fun k hk => ?_, fun k b h => ?_⟩, fun k b h => ?_⟩
  · refine st.keep b o (g.same _ _ eb) (k.imp im fun z m hm q => z m hm ?_)
    rw [h1 m (fun w => hM m hm ((hsame m).mp w))] at q; exact q
  · by_cases hv : k ∈ vs
    · funext b
      refine propext ⟨fun z => absurd hv z.1, fun z => absurd z (h0 k hv b)⟩
    · funext b
      unfold wipeS
      rw [st.oth k hk, h1 k (fun w => hv ((hsame k).mp w))]
      exact propext ⟨fun z => z.2, fun z => ⟨hv, z⟩⟩
  · have hv : k ∉ vs := fun z => h0 k z b h
    refine ⟨hv, st.grow k b ?_⟩
    rw [h1 k (fun w => hv ((hsame k).mp w))]; exact h
  · rcases st.new k b h.2 with z | z | z
    · rw [h1 k (fun w => h.1 ((hsame k).mp w))] at z; exact .inl z
    · refine .inr (.inl ?_)
      cases e : Hc b with
      | none => rfl
      | some o => rw [g.same _ _ e] at z; cases z
    · exact .inr (.inr z)
def lcA (vs Ae : List Nat) (A : List Nat) : List Nat := (Ae.filter fun k => !vs.contains k) ++ (if Ae.any (vs.contains ·) then A else [])
theorem lcA_out {vs Ae A : List Nat} {k : Nat} (h : k ∈ Ae) (hv : k ∉ vs) : k ∈ lcA vs Ae A := List.mem_append_left _ (List.mem_filter.mpr ⟨h, by simpa using hv⟩)
theorem lcA_own {vs Ae A : List Nat} {k j : Nat} (h : k ∈ Ae) (hv : k ∈ vs) (hj : j ∈ A) : j ∈ lcA vs Ae A := by
  refine List.mem_append_right _ ?_
  rw [if_pos (List.any_eq_true.mpr ⟨k, h, by simpa using hv⟩)]; exact hj
theorem lcA_mem {vs Ae A : List Nat} {k : Nat} (h : k ∈ lcA vs Ae A) : (k ∈ Ae ∧ k ∉ vs) ∨ (k ∈ A ∧ ∃ j ∈ Ae, j ∈ vs) := by
  rcases List.mem_append.mp h with z | z
  · obtain ⟨a, b⟩ := List.mem_filter.mp z
    exact .inl ⟨a, by simpa using b⟩
  · split at z
    · rename_i hc
      obtain ⟨j, h1, h2⟩ := List.any_eq_true.mp hc
      exact .inr ⟨z, j, h1, by simpa using h2⟩
    · cases z
theorem turn_tm {K : PySem.W.Frag} {H1 Hc H' H3 H4 : Hp} {Sc S2 S3 S4 : FPs} {T2 T' T4 : Addr → Prop} {x y : V} {d dy : D} {ix : Nat} {M2 M3 Is vs Ae : List Nat} (g : Gr K Hc (Sc ix) H' T' x d) (ht : ∀ b, T2 b → T' b) (hsame : ∀ i, i ∈ Is ↔ i ∈ vs) (h1 : ∀ k, k ∉ Is → S2 k = Sc k) (h2 : ∀ i ∈ Is, ∀ b, S2 i b → T2 b)
    (hM2 : ∀ m ∈ M2, m ∉ vs ∧ m ≠ ix) (hM3 : ∀ m ∈ M3, m ∉ vs ∧ m ≠ ix) (hix : ix ∉ vs) (thr : ∀ k b, Sc k b → Hc b ≠ none) (old : ∀ b, H1 b ≠ none → Hc b ≠ none) (st3 : Stp M2 H' S2 H3 S3) (st4 : Stp M3 H3 S3 H4 S4) (t : Tm K H3 H4 S4 Ae y dy T4) : Tm K H1 H4 (wipeS S4 vs) (lcA vs Ae [ix]) y dy T4 := by
  have none1 : ∀ b, Hc b = none → H1 b = none := fun b z => by
    cases e : H1 b with
    | none => rfl
    | some o => exact absurd z (old b (by rw [e]; exact fun q => nomatch q))
  have noneC : ∀ b, H' b = none → Hc b = none := fun b z => by
    cases e : Hc b with
    | none => rfl
    | some o => rw [g.same _ _ e] at z; cases z
  refine ⟨t.rv, t.thr, fun b tb => ?_⟩
  by_cases hi : Imm H4 b
  · exact .inl hi
  rcases t.prv b tb with z | ⟨k, hk, z⟩ | ⟨z1, z2, z3⟩
  · exact .inl z
  · by_cases hv : k ∈ vs
    · have hkI : k ∈ Is := (hsame k).mpr hv
      have e1 : S4 k = S2 k := by rw [st4.oth k (fun w => (hM3 k w).1 hv), st3.oth k (fun w => (hM2 k w).1 hv)]
      rw [e1] at z
      rcases g.new b (ht b (h2 k hkI b z)) with w | ⟨w1, w2, w3⟩
      · refine .inr (.inl ⟨ix, lcA_own hk hv (by simp), hix, ?_⟩)
        rw [st4.oth ix (fun w => (hM3 ix w).2 rfl), st3.oth ix (fun w => (hM2 ix w).2 rfl), h1 ix (fun w => hix ((hsame ix).mp w))]
        exact w
      · have no2 : ∀ j, j ∉ vs → ¬ S2 j b := fun j hj q => by
          rw [h1 j (fun w => hj ((hsame j).mp w))] at q
          exact thr j b q w1
        have no3 : ∀ j, j ∉ vs → ¬ S3 j b ∨ Imm H3 b := fun j hj => by
          by_cases q : S3 j b
          · rcases st3.new j b q with q | q | q
            · exact absurd q (no2 j hj)
            · exact absurd q w2
            · exact .inr q
          · exact .inl q
        have h3 : ∀ o, H' b = some o → H3 b = some o := fun o eo => st3.keep b o eo (.inr fun m hm => no2 m (hM2 m hm).1)
        have h4 : ∀ o, H3 b = some o → H4 b = some o := fun o eo => by
          by_cases hi3 : Imm H3 b
          · exact st4.keep b o eo (.inl hi3)
          · exact st4.keep b o eo (.inr fun m hm => (no3 m (hM3 m hm).1).resolve_right hi3)
        have ni3 : ¬ Imm H3 b := fun ⟨xs, q⟩ => hi ⟨xs, h4 _ q⟩
        refine .inr (.inr ⟨none1 b w1, fun j q => ?_, fun o u q => ?_⟩)
        · rcases st4.new j b q.2 with q' | q' | q'
          · exact absurd q' ((no3 j q.1).resolve_right ni3)
          · exact st3.thr b w2 q'
          · exact hi q'
        · cases e : H' b with
          | none => exact w2 e
          | some o' =>
            rw [h4 _ (h3 _ e)] at q
            exact w3 o u (e.trans q)
    · exact .inr (.inl ⟨k, lcA_out hk hv, hv, z⟩)
  · refine .inr (.inr ⟨none1 b (noneC b ?_), fun j q => z2 j q.2, z3⟩)
    cases e : H' b with
    | none => rfl
    | some o => exact absurd z1 (st3.thr b (by rw [e]; exact fun q => nomatch q))
theorem turn_acc {K : PySem.W.Frag} {F : Fx} {R1 : Rl} {PH : List Ph} {H1 Hc H' H4 : Hp} {σ2 : St} {e3 : Ev} {Sc S2 S4 : FPs} {T2 T' U : Addr → Prop} {x : V} {d : D} {ix : Nat} {M Is vs Ar : List Nat} (g : Gr K Hc (Sc ix) H' T' x d) (ht : ∀ b, T2 b → T' b) (hsame : ∀ i, i ∈ Is ↔ i ∈ vs) (h1 : ∀ k, k ∉ Is → S2 k = Sc k) (h2 : ∀ i ∈ Is, ∀ b, S2 i b → T2 b)
    (hA : ∀ k ∈ Ar, k ∉ vs) (r2 : Rp K F R1 PH H' σ2 e3 S2) (st : Stp M H' S2 H4 S4) (c : clear R1 Ar M = true) (t : Tm K H1 Hc Sc Ar .non .non U) : Tm K H1 H4 (wipeS S4 vs) Ar .non .non U ∧ ∀ b o, U b → Hc b = some o → H4 b = some o := by
  have t' : Tm K H1 H' S2 Ar .non .non U := by
    refine ⟨.inr .non, fun b ub => same_thr g.same b (t.thr b ub), fun b ub => ?_⟩
    rcases t.prv b ub with z | ⟨k, hk, z⟩ | ⟨z1, z2, z3⟩
    · exact .inl (z.imp fun xs q => g.same _ _ q)
    · refine .inr (.inl ⟨k, hk, ?_⟩)
      rw [h1 k (fun w => hA k hk ((hsame k).mp w))]; exact z
    · refine .inr (.inr ⟨z1, fun k q => ?_, fun o u q => ?_⟩)
      · by_cases hk : k ∈ Is
        · rcases g.new b (ht b (h2 k hk b q)) with w | w
          · exact z2 ix w
          · exact t.thr b ub w.1
        · rw [h1 k hk] at q; exact z2 k q
      · cases e : Hc b with
        | none => exact t.thr b ub e
        | some o' => rw [g.same _ _ e] at q; exact z3 o u (e.trans q)
  have t4 := t'.step r2 st c
  refine ⟨⟨.inr .non, t4.thr, fun b ub => ?_⟩, fun b o ub eb => t'.held r2 st.toStq c b o ub (g.same _ _ eb)⟩
  rcases t4.prv b ub with z | ⟨k, hk, z⟩ | ⟨z1, z2, z3⟩
  · exact .inl z
  · exact .inr (.inl ⟨k, hk, hA k hk, z⟩)
  · exact .inr (.inr ⟨z1, fun k q => z2 k q.2, z3⟩)
def dropRs (R : Rl) (vs : List Nat) : Rl := R.filter fun p => !vs.contains p.1 && !vs.contains p.2
theorem dropRs_o {R : Rl} {vs : List Nat} {j k : Nat} (hj : j ∉ vs) (hk : k ∉ vs) (h : rel (dropRs R vs) j k = false) : rel R j k = false := by
  cases e : rel R j k with
  | false => rfl
  | true =>
    have : rel (dropRs R vs) j k = true := by
      rw [rel_mem]
      unfold dropRs
      rcases rel_mem.mp e with z | z
      · exact .inl (List.mem_filter.mpr ⟨z, by simp [hj, hk]⟩)
      · exact .inr (List.mem_filter.mpr ⟨z, by simp [hj, hk]⟩)
    rw [h] at this; cases this
def backS (S Sb : FPs) (vs : List Nat) : FPs := fun k b => if k ∈ vs then S k b else Sb k b
theorem Rp.back {K : PySem.W.Frag} {F : Fx} {R Rb : Rl} {PH : List Ph} {H H' : Hp} {σ : St} {e e' : Ev} {S Sb : FPs} {vs M : List Nat} (r0 : Rp K F R PH H σ e S) (rb : Rp K F Rb PH H' (L2.wipe σ vs) e' Sb) (hn : ∀ i ∈ vs, e'[i]? = some none) (hv : ∀ i ∈ vs, i < F.nl ∧ i ∉ F.mu) (hM : ∀ m ∈ M, m ∉ vs) (hR : subR (dropRs Rb vs) R = true)
    (keep : ∀ b o, H b = some o → (Imm H b ∨ ∀ k ∈ M, ¬ S k b) → H' b = some o) (thr : ∀ b, H b ≠ none → H' b ≠ none) (oth : ∀ k, k ∉ M → k ∉ vs → Sb k = S k) (grow : ∀ k b, k ∉ vs → S k b → Sb k b) (new : ∀ k b, k ∉ vs → Sb k b → S k b ∨ H b = none ∨ Imm H' b) :
    Rp K F R PH H' σ e' (backS S Sb vs) ∧ Stp M H S H' (backS S Sb vs) := by
  have im : ∀ {b}, Imm H b → Imm H' b := fun {b} h => h.imp fun xs z => keep b _ z (.inl h)
  have bo : ∀ {k}, k ∉ vs → backS S Sb vs k = Sb k := fun {k} h => by funext b; unfold backS; rw [if_neg h]
  have bi : ∀ {k}, k ∈ vs → backS S Sb vs k = S k := fun {k} h => by funext b; unfold backS; rw [if_pos h]
  have nl : ∀ k, F.nl ≤ k → k ∉ vs := fun k h z => by have := (hv k z).1; omega
  have mix : ∀ i j b, i ∈ vs → j ∉ vs → rel R i j = false → S i b → Sb j b → Imm H' b := fun i j b hi hj hr si sj => by
    rcases new j b hj sj with z | z | z
    · exact im (r0.dis i j b (fun w => hj (w ▸ hi)) hr si z)
    · exact absurd z (r0.thr i b si)
    · exact z
  refine ⟨⟨rb.len, by rw [← wipe_length σ vs]; exact rb.lenS, fun i d q => ?_, fun i j b h1 h2 h3 h4 => ?_, fun i b q => ?_, rb.frm, rb.dom, fun i b q => ?_, fun p hp hpm => by rw [bo (nl _ (by omega))]; exact rb.phm p hp hpm, fun i b q => ?_, fun p hp => ?_, fun m hm => ?_, fun m hm b q => ?_, fun m hm b q => ?_, fun k b h1 h2 => by rw [bo (nl k (by omega))]; exact rb.un k b h1 h2⟩, ⟨keep, thr, fun k hk => ?_, fun k b q => ?_⟩, fun k b q => ?_⟩
  · by_cases hi : i ∈ vs
    · rw [hn i hi] at q; cases q
    · obtain ⟨v, h1, h2⟩ := rb.rep i d q
      exact ⟨v, (wipe_some h1).1, by rw [bo hi]; exact h2⟩
  · by_cases hi : i ∈ vs
    · rw [bi hi] at h3
      by_cases hj : j ∈ vs
      · rw [bi hj] at h4; exact im (r0.dis i j b h1 h2 h3 h4)
      · rw [bo hj] at h4; exact mix i j b hi hj h2 h3 h4
    · rw [bo hi] at h3
      by_cases hj : j ∈ vs
      · rw [bi hj] at h4; exact mix j i b hj hi (by rw [rel_comm]; exact h2) h4 h3
      · rw [bo hj] at h4; exact rb.dis i j b h1 (dropRs_o hi hj (subR_out hR h2)) h3 h4
  · by_cases hi : i ∈ vs
    · rw [bi hi] at q; exact thr b (r0.thr i b q)
    · rw [bo hi] at q; exact rb.thr i b q
  · by_cases hi : i ∈ vs
    · rw [bi hi] at q; exact (r0.prv i b q).imp_left im
    · rw [bo hi] at q; exact rb.prv i b q
  · have up : NFrz H' b ∨ (∃ p, p < F.np ∧ p ∉ F.mu ∧ Sb (F.nl + p) b) ∨ (∃ p ∈ PH, ∃ o u, (b, .frz o u) ∈ p.ob) → NFrz H' b ∨ (∃ p, p < F.np ∧ p ∉ F.mu ∧ backS S Sb vs (F.nl + p) b) ∨ ∃ p ∈ PH, ∃ o u, (b, .frz o u) ∈ p.ob := fun z =>
      z.imp_right (Or.imp_left fun ⟨p, hp, hpm, w⟩ => ⟨p, hp, hpm, by rw [bo (nl _ (by omega))]; exact w⟩)
    by_cases hi : i ∈ vs
    · rw [bi hi] at q
      by_cases hx : ∃ m ∈ M, S m b
      · obtain ⟨m, hm, sm⟩ := hx
        exact up (rb.fz m b (grow m b (hM m hm) sm))
      · rcases r0.fz i b q with z | ⟨p, hp, hpm, z⟩ | z
        · refine .inl fun o u w => ?_
          cases eb : H b with
          | none => exact r0.thr i b q eb
          | some o' =>
            rw [keep b o' eb (.inr fun m hm s => hx ⟨m, hm, s⟩)] at w
            exact z o u (eb.trans w)
        · exact up (.inr (.inl ⟨p, hp, hpm, grow _ b (nl _ (by omega)) z⟩))
        · exact .inr (.inr z)
    · rw [bo hi] at q; exact up (rb.fz i b q)
  · have := (rb.ph p hp).1
    rw [bo (nl _ (by omega))]; exact rb.ph p hp
  · rw [← rb.mup m hm, wipe_out' (fun z => (hv m z).2 hm)]
  · rw [bo (fun z => (hv m z).2 hm)] at q; exact rb.mus m hm b q
  · rw [bo (fun z => (hv m z).2 hm)]; exact rb.mgr m hm b q
  · by_cases hv' : k ∈ vs
    · exact bi hv'
    · rw [bo hv']; exact oth k hk hv'
  · by_cases hv' : k ∈ vs
    · rw [bi hv']; exact q
    · rw [bo hv']; exact grow k b hv' q
  · by_cases hv' : k ∈ vs
    · rw [bi hv'] at q; exact .inl q
    · rw [bo hv'] at q; exact new k b hv' q
end VD

set_option Elab.async false
set_option linter.all false
set_option maxRecDepth 100000
set_option maxHeartbeats 4000000
namespace VD
open PySem PySem.Spec L2 MC
open PyProof.Rows hiding St

def lcOk (F : Fx) (NM : List Nat) (ix : Nat) (vs Is Ae M2 M3 : List Nat) (R1 : Rl) : Bool :=
  forOk F NM ix && (vs.all fun i => setOk F i) && sameL Is vs && ((M2 ++ M3).all fun m => !vs.contains m && m != ix) && !Ae.contains ix && clear R1 (lcA vs Ae [ix]) (M2 ++ M3)
theorem clear_app {R : Rl} {A M1 M2 : List Nat} (h : clear R A (M1 ++ M2) = true) : clear R A M1 = true ∧ clear R A M2 = true := by
  unfold clear at h ⊢
  simp only [List.all_append, List.all_eq_true, Bool.and_eq_true] at h ⊢
  exact ⟨fun a ha => (h a ha).1, fun a ha => (h a ha).2⟩
section
variable {X : Cx} {F : Fx} {R R1 Rl' : Rl} {NM : List Nat} {A Ae Is M1 M2 M3 : List Nat} {fl : Bool} {tg it elt : Expr} {ifs : List Expr} {pos : Pos} {scope : Scope} {own : List (Str × Nat)} {bd : D → Ev → Option Ev} {di : Ev → Option (List D × Ev)} {dt : Ev → Option (Bool × Ev)} {da : Ev → Option (D × Ev)}
structure LcI (K : PySem.W.Frag) (F : Fx) (Rl' : Rl) (PH : List Ph) (σ : St) (vs Ar M : List Nat) (H1 : Hp) (S0 : FPs) (D : Addr) (H : Hp) (e : Ev) (S : FPs) (U : Addr → Prop) : Prop where
  rp : Rp K F Rl' PH H (L2.wipe σ vs) e S
  own : ∀ i ∈ vs, ∀ b, ¬ S i b
  nD : ∀ k, ¬ S k D
  uD : ¬ U D
  tm : Tm K H1 H S Ar .non .non U
  st : Stp M H1 S0 H S
  en : ∀ i ∈ vs, e[i]? = some none
def SIat (K : PySem.W.Frag) (F : Fx) (R : Rl) (PH : List Ph) (wi : TI) (den : Ev → Option (List D × Ev)) (A M : List Nat) (σ : St) (H : Hp) (e : Ev) (S : FPs) : Prop :=
  ∀ (Rk : It → Hp → Prop) (items : List D) (e' : Ev), den e = some (items, e') → (∀ J v d ob H' S' T, Stp M H S H' S' → Rp K F R PH H' σ e' S' → Ti K H H' S' A v d ob T → Wk K J v d ob items → PopOk F PH ob → Rk J H') → wi σ H Rk
def SEat (K : PySem.W.Frag) (F : Fx) (R : Rl) (PH : List Ph) (t : TE) (den : Ev → Option (D × Ev)) (A M : List Nat) (σ : St) (H : Hp) (e : Ev) (S : FPs) : Prop :=
  ∀ (Q : VK) (d : D) (e' : Ev), den e = some (d, e') → (∀ v H' S' T, Stp M H S H' S' → Rp K F R PH H' σ e' S' → Tm K H H' S' A v d T → Q v H') → t σ H Q
theorem lc_at {K : PySem.W.Frag} {wi : TI} {g : TG} {tt : TT} {te : TE} (ix : Nat) (Rl' : Rl) (sg : SG K F Rl' (ix :: NM) R1 (if fl then [] else [ix]) fl Is g bd) (s3 : ST K F R1 (ix :: NM) tt dt M2)
    (s4 : SE K F R1 (ix :: NM) te da Ae M3) (hok : lcOk F NM ix (own.map (·.2)) Is Ae M2 M3 R1 = true) (w1 : subR (rset R ix A) Rl' = true) (w2 : subR R1 Rl' = true) (w3 : subR (dropRs (dropR Rl' ix) (own.map (·.2))) R = true) {PH : List Ph} (hP : PH.map (·.ix) = NM) {σ : St} {H : Hp} {e : Ev} {S : FPs} (r : Rp K F R PH H σ e S) (si : SIat K F R PH wi di A M1 σ H e S) :
    SEat K F R PH (tLc wi g tt te (own.map (·.2))) (dLc (own.map (·.2)) di (bFl fl bd) dt da) (lcA (own.map (·.2)) Ae A) (M1 ++ (M2 ++ M3)) σ H e S := by
  intro Q d e' hd q
  generalize hvs : own.map (·.2) = vs at *
  unfold lcOk forOk at hok
  simp only [Bool.and_eq_true, decide_eq_true_eq, List.all_eq_true, bne_iff_ne, ne_eq, Bool.not_eq_true', List.contains_eq_mem, decide_eq_false_iff_not] at hok
  obtain ⟨⟨⟨⟨⟨⟨⟨f1, f2⟩, f3⟩, k1⟩, k2⟩, k3⟩, k5⟩, k4⟩ := hok
  obtain ⟨c2, c3⟩ := clear_app k4
  have hsame := sameL_out k2
  have hv : ∀ i ∈ vs, i < F.nl ∧ i ∉ F.mu := fun i hi => setOk_out (k1 i hi)
  have hM2 : ∀ m ∈ M2, m ∉ vs ∧ m ≠ ix := fun m hm => k3 m (List.mem_append_left _ hm)
  have hM3 : ∀ m ∈ M3, m ∉ vs ∧ m ≠ ix := fun m hm => k3 m (List.mem_append_right _ hm)
  have hixv : ix ∉ vs := fun z => by have := (hv ix z).1; omega
  have hix : ∀ p ∈ PH, p.ix ≠ ix := fun p hp => f2 _ (by rw [← hP]; exact List.mem_map_of_mem hp)
  have hAr : ∀ k ∈ lcA vs Ae [ix], k ∉ vs := fun k hk => by
    rcases lcA_mem hk with z | z
    · exact z.2
    · have : k = ix := by simpa using z.1
      rw [this]; exact hixv
  unfold dLc at hd
  split at hd
  · rename_i items e1 hx
    split at hd
    · rename_i ys e2 hgo
      split at hd
      · rename_i hlen
        cases hd
        refine si _ _ _ hx fun J v d ob H1 S1 T st1 r1 t1 wk nf => ?_
        intro D hD
        have hP' : (⟨ix, v, d, ob, t1.okd⟩ :: PH : List Ph).map (·.ix) = ix :: NM := by rw [List.map_cons, hP]
        have rp1 := ((r1.push t1 r.dom f1 hix f3).weak w1).wipe hv
        have noneD : ∀ k, ¬ wipeS (setS S1 ix T) vs k D := fun k z => by
          by_cases hk : k = ix
          · have z2 := z.2
            rw [hk, setS_eq] at z2
            exact t1.thr D z2 hD
          · have z2 := z.2
            rw [setS_ne hk] at z2
            exact r1.thr k D z2 hD
        have h0D : F.H0 D = none := by
          cases w : F.H0 D with
          | none => rfl
          | some o => exact absurd hD (r1.dom D (by rw [w]; exact fun z => nomatch z))
        let S0 : FPs := wipeS (setS S1 ix T) vs
        let PHx : List Ph := ⟨ix, v, d, ob, t1.okd⟩ :: PH
        have stH : ∀ {e : Ev} {S : FPs} {H : Hp} {σ : St}, Rp K F Rl' PHx H σ e S → StH K v d ob H (S ix) := fun r => (r.ph _ List.mem_cons_self).2
        refine ⟨fun i m Hc => m = items.length - i ∧ i ≤ items.length ∧ ∃ ec Sc U accV accD rest, LcI K F Rl' PHx σ vs (lcA vs Ae [ix]) (M2 ++ M3) H1 S0 D Hc ec Sc U ∧ Hc D = some (.lst accV) ∧ DDs (Res U Hc) accV accD ∧ goLc vs (bFl fl bd) dt da (items.drop i) ec = some (rest, e') ∧ accD ++ rest = ys,
          ⟨_, rfl, Nat.zero_le _, wipeE e1 vs, S0, fun _ => False, [], [], ys, ⟨rp1.updF noneD h0D, fun i hi b z => z.1 hi, noneD, fun z => z, ⟨.inr .non, fun b z => z.elim, fun b z => z.elim⟩, (Stp.of_same (same_new' hD _)).weak (fun m hm => nomatch hm), wipeE_none fun i hi => by rw [r1.len]; exact (hv i hi).1⟩, upd_same, .nil, by rw [List.drop_zero]; exact hgo, rfl⟩, ?_⟩
        rintro i m Hc ⟨rfl, hi, ec, Sc, U, accV, accD, rest, I, hDc, hacc, hgo2, hys⟩
        by_cases hlt : i < items.length
        · refine .inr ⟨wk.go i Hc _ hlt (stH I.rp), fun H5 => ∃ ec Sc U accV accD rest, LcI K F Rl' PHx σ vs (lcA vs Ae [ix]) (M2 ++ M3) H1 S0 D H5 ec Sc U ∧ H5 D = some (.lst accV) ∧ DDs (Res U H5) accV accD ∧ goLc vs (bFl fl bd) dt da (items.drop (i + 1)) ec = some (rest, e') ∧ accD ++ rest = ys, fun H' z => ⟨items.length - (i + 1), by omega, rfl, hlt, z⟩, fun x H' y => ?_⟩
          obtain ⟨d', hd', T', gr⟩ := wk.yld i Hc _ x H' hlt (stH I.rp) y
          have hdrop : items.drop i = d' :: items.drop (i + 1) := by
            obtain ⟨_, e⟩ := List.getElem?_eq_some_iff.mp hd'
            rw [← e]; exact List.drop_eq_getElem_cons hlt
          rw [hdrop] at hgo2
          unfold goLc at hgo2
          split at hgo2
          · rename_i e3 hbd
            have tm := item_tm (ix := ix) I.rp gr fun b z => z
            obtain ⟨T2, tm, hfl, hT2, hbd⟩ := item_fl tm hbd
            refine sg _ hP' (L2.wipe σ vs) H' ec Sc x d' T2 _ e3 Hc (I.rp.same gr.same) tm hfl I.rp.dom hbd fun σ2 S2 r2 q1 q2 q4 q3 => ?_
            have hw : L2.wipe σ2 vs = L2.wipe σ vs := by
              have a1 := wipe_same (σ := σ2) hsame
              have a2 := wipe_same (σ := L2.wipe σ vs) hsame
              rw [← a1, q3, a2, wipe_twice]
            refine ⟨hw, ?_⟩
            have hD' : H' D = some (.lst accV) := gr.same _ _ hDc
            have n2 : ∀ k, ¬ S2 k D := fun k z => by
              by_cases hk : k ∈ Is
              · rcases gr.new D (hT2 D (q2 k hk D z)) with w | w
                · exact I.nD ix w
                · rw [hDc] at w; exact nomatch w.1
              · rw [q1 k hk] at z; exact I.nD k z
            have thrC : ∀ k b, Sc k b → Hc b ≠ none := I.rp.thr
            -- behind the turn
            have fin : ∀ {M : List Nat} {H4 : Hp} {S4 : FPs} {e5 : Ev}, (∀ m ∈ M, m ∈ M2 ++ M3) → Stp M H' S2 H4 S4 → Rp K F R1 PHx H4 σ2 e5 S4 → clear R1 (lcA vs Ae [ix]) M = true →
                H4 D = some (.lst accV) ∧ (∀ k, ¬ S4 k D) ∧ LcI K F Rl' PHx σ vs (lcA vs Ae [ix]) (M2 ++ M3) H1 S0 D H4 (wipeE e5 vs) (wipeS S4 vs) U ∧ DDs (Res U H4) accV accD := fun {M H4 S4 e5} hM st r4 c => by
              have e4 : H4 D = some (.lst accV) := st.keep D _ hD' (.inr fun m _ => n2 m)
              have n4 : ∀ k, ¬ S4 k D := fun k z => by
                rcases st.new k D z with w | w | ⟨xs, w⟩
                · exact n2 k w
                · rw [hD'] at w; cases w
                · rw [e4] at w; cases w
              obtain ⟨ta, th⟩ := turn_acc gr hT2 hsame q1 q2 hAr r2 st c I.tm
              have ts := turn_stp gr hT2 hsame q1 I.own (fun m hm => (k3 m (hM m hm)).1) thrC st
              refine ⟨e4, n4, ⟨?_, fun i hi b z => z.1 hi, fun k z => n4 k z.2, I.uD, ta, ?_, wipeE_none fun i hi => by rw [r4.len]; exact (hv i hi).1⟩, hacc.mono (res_mono fun b o ub eb => ⟨ub, th b o ub eb⟩)⟩
              · have := (r4.wipe hv).weak w2
                rw [hw] at this; exact this
              · exact (I.st.trans (ts.weak hM)).weak fun m hm => (List.mem_append.mp hm).elim id id
            split at hgo2
            · rename_i e4 hdt
              refine s3 _ hP' σ2 H' e3 S2 _ _ _ r2 hdt fun H3 S3 st3 r3 => ?_
              rw [if_pos rfl]
              split at hgo2
              · rename_i y e5 hda
                split at hgo2
                · cases hgo2
                · rename_i hro
                  split at hgo2
                  · rename_i ys' e6 hrec
                    cases hgo2
                    refine s4 _ hP' σ2 H3 e4 S3 _ _ _ r3 hda fun yv H4 S4 T4 st4 r4 tm4 => ?_
                    obtain ⟨h4D, n4, I4, acc4⟩ := fin (M := M2 ++ M3) (fun m hm => hm) (st3.trans st4) r4 k4
                    have t4 := turn_tm gr hT2 hsame q1 q2 hM2 hM3 hixv thrC I.st.thr st3 st4 tm4
                    have h3D : H3 D = some (.lst accV) := st3.keep D _ hD' (.inr fun m _ => n2 m)
                    have tD : ¬ T4 D := fun z => by
                      rcases tm4.prv D z with ⟨xs, w⟩ | ⟨k, _, w⟩ | ⟨w, _⟩
                      · rw [h4D] at w; cases w
                      · exact n4 k w
                      · rw [h3D] at w; cases w
                    have im5 : ∀ {b}, b ≠ D → Imm H4 b → Imm (upd H4 D (.lst (accV ++ [yv]))) b := fun {b} hb h => h.imp fun xs w => by rw [upd_ne hb]; exact w
                    have uN : ∀ {b}, (U b ∨ T4 b) → b ≠ D := fun {b} w z => by
                      subst z
                      exact w.elim I.uD tD
                    refine ⟨accV, h4D, ?_, wipeE e5 vs, wipeS S4 vs, fun b => U b ∨ T4 b, accV ++ [yv], accD ++ [y], ys', ⟨I4.rp.updF I4.nD h0D, I4.own, I4.nD, fun w => w.elim I.uD tD, ⟨.inr .non, fun b w => thr_keep (w.elim (I4.tm.thr b) (t4.thr b)), fun b w => ?_⟩, ?_, I4.en⟩, upd_same, ?_, hrec, by rw [List.append_assoc]; exact hys⟩
                    · have : accV.length = accD.length := hacc.length
                      have l2 : (accD ++ y :: ys').length ≤ sizeLine := by rw [hys]; exact hlen
                      rw [List.length_append, List.length_cons] at l2
                      omega
                    · have hb := uN w
                      rcases w.elim (I4.tm.prv b) (t4.prv b) with z | z | ⟨z1, z2, z3⟩
                      · exact .inl (im5 hb z)
                      · exact .inr (.inl z)
                      · exact .inr (.inr ⟨z1, z2, nfrz_keep z3 fun _ _ z => nomatch z⟩)
                    · refine ⟨⟨fun b o eb k => ?_, fun b hb => thr_keep (I4.st.thr b hb), I4.st.oth, I4.st.grow⟩, fun k b h => ?_⟩
                      · rw [upd_ne (fun z => by rw [z, hD] at eb; cases eb)]
                        exact I4.st.keep b o eb k
                      · rcases I4.st.new k b h with z | z | z
                        · exact .inl z
                        · exact .inr (.inl z)
                        · exact .inr (.inr (im5 (fun w => by subst w; obtain ⟨xs, z⟩ := z; rw [h4D] at z; cases z) z))
                    · have hdy : DD (Res T4 H4) yv y := by
                        rcases t4.rv with ⟨_, _, z, _⟩ | z
                        · rw [z] at hro; exact absurd rfl hro
                        · exact z
                      exact (acc4.mono (res_mono fun b o ub eb => ⟨.inl ub, by rw [upd_ne (uN (.inl ub))]; exact eb⟩)).append (.cons (hdy.mono (res_mono fun b o ub eb => ⟨.inr ub, by rw [upd_ne (uN (.inr ub))]; exact eb⟩)) .nil)
                  · cases hgo2
              · cases hgo2
            · rename_i e4 hdt
              refine s3 _ hP' σ2 H' e3 S2 _ _ _ r2 hdt fun H3 S3 st3 r3 => ?_
              rw [if_neg Bool.false_ne_true]
              obtain ⟨h4D, n4, I4, acc4⟩ := fin (M := M2) (fun m hm => List.mem_append_left _ hm) st3 r3 c2
              exact ⟨_, _, U, accV, accD, rest, I4, h4D, acc4, hgo2, hys⟩
            · cases hgo2
          · cases hgo2
        · have e : i = items.length := by omega
          subst e
          rw [List.drop_length] at hgo2
          unfold goLc at hgo2
          cases hgo2
          rw [List.append_nil] at hys
          subst hys
          refine .inl ⟨wk.stop Hc _ (stH I.rp), ?_⟩
          have rb := I.rp.pop (p0 := ⟨ix, v, d, ob, t1.okd⟩) hix f3 nf
          have sIx : Sc ix = T := by
            have a1 := I.st.oth ix (fun z => (k3 ix z).2 rfl)
            rw [a1]
            funext b
            show (ix ∉ vs ∧ setS S1 ix T ix b) = T b
            rw [setS_eq]
            exact propext ⟨fun z => z.2, fun z => ⟨hixv, z⟩⟩
          have u1 : ∀ b, ¬ S1 ix b := fun b => r1.un ix b f1 hix
          have nix : ∀ {k b}, setS Sc ix (fun _ => False) k b → k ≠ ix ∧ Sc k b := fun {k b} h => by
            by_cases hk : k = ix
            · rw [hk, setS_eq] at h; exact h.elim
            · rw [setS_ne hk] at h; exact ⟨hk, h⟩
          have s0 : ∀ {k b}, k ≠ ix → k ∉ vs → (S0 k b ↔ S1 k b) := fun {k b} hk hkv => by
            show (k ∉ vs ∧ setS S1 ix T k b) ↔ S1 k b
            rw [setS_ne hk]
            exact ⟨fun z => z.2, fun z => ⟨hkv, z⟩⟩
          obtain ⟨rF, stF⟩ := r1.back (M := M2 ++ M3) rb I.en hv (fun m hm => (k3 m hm).1) w3 (fun b o eb k => I.st.keep b o eb (k.imp_right fun z m hm w => z m hm ((s0 (k3 m hm).2 (k3 m hm).1).mp w))) I.st.thr
            (fun k hk hkv => by
              by_cases hki : k = ix
              · subst hki; funext b; rw [setS_eq]; exact propext ⟨fun z => z.elim, fun z => (u1 b z).elim⟩
              · rw [setS_ne hki, I.st.oth k hk]; funext b; exact propext (s0 hki hkv))
            (fun k b hkv h => by
              have hki : k ≠ ix := fun z => u1 b (z ▸ h)
              rw [setS_ne hki]; exact I.st.grow k b ((s0 hki hkv).mpr h))
            (fun k b hkv h => by
              obtain ⟨hki, h⟩ := nix h
              exact (I.st.new k b h).imp_left (s0 hki hkv).mp)
          have none1 : ∀ b, H1 b = none → H b = none := fun b z => by
            cases w : H b with
            | none => rfl
            | some y => exact absurd z (st1.thr b (by rw [w]; exact fun q => nomatch q))
          have notF : ∀ b, (∀ k, ¬ S1 k b) → H1 b ≠ none → ¬ Imm Hc b → ∀ k, ¬ backS S1 (setS Sc ix fun _ => False) vs k b := fun b h1 h2 h3 k z => by
            rcases stF.new k b z with w | w | w
            · exact h1 k w
            · exact h2 w
            · exact h3 w
          refine q _ Hc _ (fun b => U b ∨ b = D) (st1.trans stF) rF ⟨.inr (.lst (by rw [res_in (.inr rfl)]; exact hDc) (hacc.mono (res_up fun b z => .inl z))), fun b z => z.elim (I.tm.thr b) fun w => by rw [w, hDc]; exact (fun z => nomatch z), fun b z => ?_⟩
          rcases z with ub | rfl
          · by_cases hi : Imm Hc b
            · exact .inl hi
            rcases I.tm.prv b ub with z | ⟨k, hk, z⟩ | ⟨z1, z2, z3⟩
            · exact .inl z
            · rcases lcA_mem hk with ⟨a1, a2⟩ | ⟨a1, j, a2, a3⟩
              · have hki : k ≠ ix := fun w => k5 (w ▸ a1)
                refine .inr (.inl ⟨k, lcA_out a1 a2, ?_⟩)
                unfold backS
                rw [if_neg a2, setS_ne hki]; exact z
              · have hki : k = ix := by simpa using a1
                subst hki
                rw [sIx] at z
                rcases t1.prv b z with w | ⟨j', hj', w⟩ | ⟨w1, w2, w3⟩
                · exact .inl (stF.imm w)
                · exact .inr (.inl ⟨j', lcA_own a2 a3 hj', stF.grow j' b w⟩)
                · refine .inr (.inr ⟨w1, notF b w2 (t1.thr b z) hi, fun o u y => ?_⟩)
                  cases eb : H1 b with
                  | none => exact t1.thr b z eb
                  | some o' =>
                    rw [stF.keep b o' eb (.inr fun m _ => w2 m)] at y
                    exact w3 o u (eb.trans y)
            · refine .inr (.inr ⟨none1 b z1, fun k w => ?_, z3⟩)
              unfold backS at w
              split at w
              · exact r1.thr k b w z1
              · exact z2 k (nix w).2
          · refine .inr (.inr ⟨none1 b hD, fun k w => ?_, fun o u w => by rw [hDc] at w; cases w⟩)
            unfold backS at w
            split at w
            · exact r1.thr k b w hD
            · exact I.nD k (nix w).2
      · cases hd
    · cases hd
  · cases hd
theorem lc_core (ix : Nat) (Rl' : Rl) (hi : VI X F R NM tg it di A M1) (hg : ∀ b, VG (Bk X scope b) F Rl' (ix :: NM) R1 (if fl then [] else [ix]) fl Is tg bd) (ht : ∀ b, VTs (Bk X scope b) F R1 (ix :: NM) ifs dt M2)
    (he : ∀ b, VE (Bk X scope b) F R1 (ix :: NM) elt da Ae M3) (hok : lcOk F NM ix (own.map (·.2)) Is Ae M2 M3 R1 = true) (w1 : subR (rset R ix A) Rl' = true) (w2 : subR R1 Rl' = true) (w3 : subR (dropRs (dropR Rl' ix) (own.map (·.2))) R = true) :
    ∃ wi g tt te, PI X tg it wi ∧ (∀ b, PG (Bk X scope b) tg g) ∧ (∀ b, PTs (Bk X scope b) ifs tt) ∧ (∀ b, PE (Bk X scope b) elt te) ∧ SE X.K F R NM (tLc wi g tt te (own.map (·.2))) (dLc (own.map (·.2)) di (bFl fl bd) dt da) (lcA (own.map (·.2)) Ae A) (M1 ++ (M2 ++ M3)) := by
  obtain ⟨wi, pi, si⟩ := hi.ex
  obtain ⟨g, pg, sg⟩ := blk_g hg
  obtain ⟨tt, pt, s3⟩ := blk_t ht
  obtain ⟨te, pe, s4⟩ := blk_e he
  exact ⟨wi, g, tt, te, pi, pg, pt, pe, fun PH hP σ H e S Q d e' r hd q => lc_at ix Rl' sg s3 s4 hok w1 w2 w3 hP r (fun Rk items e' hd q => si PH hP σ H e S Rk items e' r hd q) Q d e' hd q⟩
theorem ve_lc (ix : Nat) (Rl' : Rl) (hc : X.calm = true) (hN : X.N.Nodup) (hi : VI X F R NM tg it di A M1) (ok : BlkOk X.N X.env.scope scope own) (hg : ∀ b, VG (Bk X scope b) F Rl' (ix :: NM) R1 (if fl then [] else [ix]) fl Is tg bd) (ht : ∀ b, VTs (Bk X scope b) F R1 (ix :: NM) ifs dt M2)
    (he : ∀ b, VE (Bk X scope b) F R1 (ix :: NM) elt da Ae M3) (hok : lcOk F NM ix (own.map (·.2)) Is Ae M2 M3 R1 = true := by rfl) (w1 : subR (rset R ix A) Rl' = true := by rfl) (w2 : subR R1 Rl' = true := by rfl) (w3 : subR (dropRs (dropR Rl' ix) (own.map (·.2))) R = true := by rfl)
    (hs : ∀ x, foldedSetIterable it X.env x = pure x := by intro _; rfl) : VE X F R NM (.ListComp elt [⟨tg, it, ifs, 0⟩] scope pos) (dLc (own.map (·.2)) di (bFl fl bd) dt da) (lcA (own.map (·.2)) Ae A) (M1 ++ (M2 ++ M3)) := by
  obtain ⟨wi, g, tt, te, pi, pg, pt, pe, se⟩ := lc_core ix Rl' hi hg ht he hok w1 w2 w3
  exact ⟨_, pe_lc hc hN pi ok (fun s H C cl fp => pg (s, H, C, cl, fp)) (fun s H C cl fp => pt (s, H, C, cl, fp)) (fun s H C cl fp => pe (s, H, C, cl, fp)) hs, se⟩
theorem vs_setLc {Rb : Rl} {al : List Nat} {spos py : Pos} {y : Str} (i : Nat) (ix : Nat) (Rl' : Rl) (hc : X.calm = true) (hN : X.N.Nodup) (hi : VI X F R NM tg it di A M1) (ok : BlkOk X.N X.env.scope scope own) (hg : ∀ b, VG (Bk X scope b) F Rl' (ix :: NM) R1 (if fl then [] else [ix]) fl Is tg bd) (ht : ∀ b, VTs (Bk X scope b) F R1 (ix :: NM) ifs dt M2)
    (he : ∀ b, VE (Bk X scope b) F R1 (ix :: NM) elt da Ae M3) (hsw : swapsWith (.ListComp elt [⟨tg, it, ifs, 0⟩] scope pos) (some (.Name y py)) spos.line X.env = pure true) (hok : lcOk F NM ix (own.map (·.2)) Is Ae M2 M3 R1 = true := by rfl) (w1 : subR (rset R ix A) Rl' = true := by rfl) (w2 : subR R1 Rl' = true := by rfl) (w3 : subR (dropRs (dropR Rl' ix) (own.map (·.2))) R = true := by rfl)
    (hy : X.N[i]? = some y := by rfl) (hyl : X.env.scope.names.lookup y = some .local := by rfl) (hio : setOk F i = true := by rfl) (hs : ∀ x, foldedSetIterable it X.env x = pure x := by intro _; rfl) :
    VS X F R NM (rset R i (lcA (own.map (·.2)) Ae A)) Rb al (.Assign [.Name y py] (.ListComp elt [⟨tg, it, ifs, 0⟩] scope pos) spos) (sSet i (dLc (own.map (·.2)) di (bFl fl bd) dt da)) := by
  obtain ⟨wi, g, tt, te, pi, pg, pt, pe, se⟩ := lc_core ix Rl' hi hg ht he hok w1 w2 w3
  exact ⟨_, ps_setLc hc hN hy hyl hsw pi ok (fun s H C cl fp => pg (s, H, C, cl, fp)) (fun s H C cl fp => pt (s, H, C, cl, fp)) (fun s H C cl fp => pe (s, H, C, cl, fp)) hs, ss_set se hio⟩
end
end VD

set_option Elab.async false
set_option linter.all false
set_option maxRecDepth 100000
set_option maxHeartbeats 4000000
namespace VD
open PySem PySem.Spec L2 MC
open PyProof.Rows hiding St

def keyP : Key → PyData
  | .inl i => .int i
  | .inr x => .str x
mutual
def D.py : D → PyData
  | .non => .none
  | .bl b => .bool b
  | .int i => .int i
  | .str x => .str x
  | .lst xs => .list (pys xs)
  | .tup xs => .tuple (pys xs)
  | .dct kvs => .dict (pyk kvs)
  | .ro ns => .list (ns.map PyData.int)
def pys : List D → List PyData
  | [] => []
  | x :: xs => D.py x :: pys xs
def pyk : List (Key × D) → List (PyData × PyData)
  | [] => []
  | (k, x) :: xs => (keyP k, D.py x) :: pyk xs
end
section
variable {X : Cx} {pins : List (Addr × Obj)} {σ : St} {H : Hp} {s : Shared}
theorem key_reads {h : Heap} {k : Key} {v : Value} (e : keyIs k v = true) : Reads h v (keyP k) [] := by
  rcases keyIs_shape e with ⟨i, t, rfl, rfl⟩ | ⟨x, t, rfl, rfl⟩
  · exact .int i t
  · exact .str x t
theorem keys_reads {P : Program} {w : World} {h : Heap} : ∀ {kvs : List (Key × V)} {es : List (Key × D)} {vs : List (Key × Value)} {en : List DictEntry}, DKs H kvs es → KV kvs vs → Pairs (mixKind P w) en vs → ReadsAll h (en.map (·.key)) ((pyk es).map (·.1)) []
  | _, _, _, _, .nil, kv, p => by
    cases kv; cases p
    exact .nil
  | (k, v) :: kvs, _, _, _, .cons h1 hs, kv, p => by
    cases kv with
    | cons h2 h3 =>
      cases p with
      | cons g1 g2 g3 =>
        obtain ⟨e1, _⟩ := h2
        rw [← e1] at g1
        have r := keys_reads (h := h) hs h3 g3
        exact .cons (as := []) (bs := []) (key_reads g1) r
mutual
theorem DD.reads (I : Inv X pins σ H s) : ∀ (d : D) (v : V) (u : Value), DD H v d → RelV v u → ∃ as, Reads s.heap u d.py as ∧ ∀ b ∈ as, H b ≠ none
  | .non, _, _, h, r => by
    cases h; cases r
    exact ⟨_, .none, fun b hb => nomatch hb⟩
  | .bl b, _, _, h, r => by
    cases h; cases r
    exact ⟨_, .bool b, fun b hb => nomatch hb⟩
  | .int i, _, _, h, r => by
    cases h; obtain ⟨t, rfl⟩ := r
    exact ⟨_, .int i t, fun b hb => nomatch hb⟩
  | .str x, _, _, h, r => by
    cases h; obtain ⟨t, rfl⟩ := r
    exact ⟨_, .str x t, fun b hb => nomatch hb⟩
  | .lst ds, _, _, h, r => by
    cases h with
    | lst ha hs =>
      cases r
      obtain ⟨_, its, n, rv, ho⟩ := (show ObjOk X.prog X.w H s.heap _ (.lst _) from I.hok _ _ ha)
      obtain ⟨as, hr, hb⟩ := DDs.reads I ds _ its hs rv
      refine ⟨_, .list ho rfl rfl (by simpa using hr), fun b hbm => ?_⟩
      rcases List.mem_cons.mp hbm with rfl | hbm
      · rw [ha]; exact fun z => nomatch z
      · exact hb b hbm
  | .tup ds, _, _, h, r => by
    cases h with
    | tup ha hs =>
      cases r
      obtain ⟨_, its, rv, o, ho, hc, n, hd⟩ := (show ObjOk X.prog X.w H s.heap _ (.tup _) from I.hok _ _ ha)
      obtain ⟨as, hr, hb⟩ := DDs.reads I ds _ its hs rv
      exact ⟨_, .tuple ho hc hd (by simpa using hr), hb⟩
  | .dct es, _, _, h, r => by
    cases h with
    | @dct a kvs _ ha hs =>
      cases r
      obtain ⟨_, _, vs, kv, o, en, ep, ho, hx, hd, _, hm, _⟩ := dk_rd I.hok ha
      have r1 := keys_reads (h := s.heap) hs kv hm
      obtain ⟨bs, r2, hb⟩ := DKs.reads I es _ vs en.toList hs kv hm
      refine ⟨_, .dict ho hx.1 hd r1 r2, fun b hbm => ?_⟩
      rcases List.mem_append.mp hbm with z | z
      · rw [List.mem_singleton.mp z]
        rcases ha with q | ⟨o', q⟩
        · rw [q]; exact fun z => nomatch z
        · rw [q]; exact fun z => nomatch z
      · exact hb b z
  | .ro _, _, _, h, _ => by cases h
theorem DDs.reads (I : Inv X pins σ H s) : ∀ (ds : List D) (vs : List V) (us : List Value), DDs H vs ds → Vals vs us → ∃ as, ReadsAll s.heap us (pys ds) as ∧ ∀ b ∈ as, H b ≠ none
  | [], _, _, h, r => by
    cases h; cases r
    exact ⟨_, .nil, fun b hb => nomatch hb⟩
  | d :: ds, _, _, h, r => by
    cases h with
    | cons h1 h2 =>
      cases r with
      | cons r1 r2 =>
        obtain ⟨as, q1, b1⟩ := DD.reads I d _ _ h1 r1
        obtain ⟨bs, q2, b2⟩ := DDs.reads I ds _ _ h2 r2
        exact ⟨_, .cons q1 q2, fun b hb => (List.mem_append.mp hb).elim (b1 b) (b2 b)⟩
theorem DKs.reads (I : Inv X pins σ H s) : ∀ (ds : List (Key × D)) (kvs : List (Key × V)) (vs : List (Key × Value)) (en : List DictEntry), DKs H kvs ds → KV kvs vs → Pairs (mixKind X.prog X.w) en vs → ∃ as, ReadsAll s.heap (en.map (·.val)) ((pyk ds).map (·.2)) as ∧ ∀ b ∈ as, H b ≠ none
  | [], _, _, _, h, r, p => by
    cases h; cases r; cases p
    exact ⟨_, .nil, fun b hb => nomatch hb⟩
  | (k, d) :: ds, _, _, _, h, r, p => by
    cases h with
    | cons h1 h2 =>
      cases r with
      | cons r1 r2 =>
        cases p with
        | cons p1 p2 p3 =>
          obtain ⟨_, r1⟩ := r1
          rw [← p2] at r1
          obtain ⟨as, q1, b1⟩ := DD.reads I d _ _ h1 r1
          obtain ⟨bs, q2, b2⟩ := DKs.reads I ds _ _ _ h2 r2 p3
          exact ⟨_, .cons q1 q2, fun b hb => (List.mem_append.mp hb).elim (b1 b) (b2 b)⟩
end
end
def showOk (d : D) : Bool := d.py.showable && decide (d.py.depth ≤ 100) && decide (d.py.shown.length ≤ sizeLine)
def rReprV : List V → Hp → VK → Prop := fun xs H Q => ∃ x d, xs = [x] ∧ DD H x d ∧ showOk d = true ∧ Q (.str d.py.shown) H
theorem call_reprV {X : Cx} (hg : X.A.guards = some []) (hu : X.A.units + 200 < cLine) (hn : NoSys X) : CallR X (.builtin "repr") rReprV := by
  intro pins s σ H xs us Q I r h
  obtain ⟨x, d, rfl, hd, hs, q⟩ := h
  unfold showOk at hs
  simp only [Bool.and_eq_true, decide_eq_true_eq] at hs
  obtain ⟨⟨hs, hdp⟩, hz⟩ := hs
  obtain ⟨u, rfl, rx⟩ := vals1 r
  obtain ⟨as, rd, nb⟩ := DD.reads I d x u hd rx
  have fin : ∀ tk t, EP X pins σ Q (.str d.py.shown t) { s with toks := tk } := fun tk t => ⟨.str _, H, I.tok _, ⟨_, rfl⟩, q⟩
  cases hd with
  | non => cases rx; exact PySem.P.repr_of_none (fin _ _)
  | bl b =>
    cases rx
    refine PySem.P.repr_of_bool ?_
    have := fin (s.toks + 1) s.toks
    cases b <;> exact this
  | int i =>
    obtain ⟨t, rfl⟩ := rx
    exact PySem.P.repr_of_int (by simpa [D.py, PyData.showable] using hs) (fin _ _)
  | str z =>
    obtain ⟨t, rfl⟩ := rx
    exact PySem.P.repr_of_str (fin _ _) hz
  | _ =>
    cases rx
    refine repr_of_reads' rd hs (fun _ hm => ?_) hg (by omega) (fun _ _ e => e) (fun h' u tk hk => ⟨.str _, H, I.kept (h' := h') (t' := tk) hk, ⟨_, rfl⟩, q⟩) hz
    obtain ⟨o, ho⟩ := hn
    exact nb _ hm (I.bs _ _ (I.ok.mod.kin _ _ ho)).2
def pRepr : List D → Option D := fun ds => match ds with
  | [d] => if !isRo d && showOk d then some (.str d.py.shown) else none
  | _ => none
theorem RV.dd {K : PySem.W.Frag} {H : Hp} {v : V} {d : D} (h : RV K H v d) (n : isRo d = false) : DD H v d := by
  rcases h with ⟨_, _, rfl, _⟩ | h
  · cases n
  · exact h
theorem ps_repr {K : PySem.W.Frag} : PsL K rReprV pRepr := by
  intro H vs ds d Q h hp q
  unfold pRepr at hp
  split at hp
  · rename_i d0
    split at hp
    · rename_i hc
      cases hp
      rw [Bool.and_eq_true, Bool.not_eq_true'] at hc
      cases h with
      | cons h hs =>
        cases hs
        exact ⟨_, d0, rfl, h.dd hc.1, hc.2, q _ (.str _)⟩
    · cases hp
  · cases hp

mutual
def D.noD : D → Bool
  | .dct _ => false
  | .ro _ => false
  | .lst xs => noDs xs
  | .tup xs => noDs xs
  | _ => true
def noDs : List D → Bool
  | [] => true
  | x :: xs => D.noD x && noDs xs
end
mutual
theorem DD.dp {K : PySem.W.Frag} {H : Hp} : ∀ {d : D} {v : V}, DD H v d → d.noD = true → Dp K H v d.py
  | .non, _, h, _ => by cases h; exact .non
  | .bl _, _, h, _ => by cases h; exact .bl _
  | .int _, _, h, _ => by cases h; exact .int _
  | .str _, _, h, _ => by cases h; exact .str _
  | .lst ds, _, h, n => by
    cases h with
    | lst h hs => exact .lst (SqL.of h) (DDs.dp hs n)
  | .tup ds, _, h, n => by
    cases h with
    | tup h hs => exact .tup (SqT.of h) (DDs.dp hs n)
  | .dct _, _, _, n => by simp [D.noD] at n
  | .ro _, _, h, _ => by cases h
theorem DDs.dp {K : PySem.W.Frag} {H : Hp} : ∀ {ds : List D} {vs : List V}, DDs H vs ds → noDs ds = true → DpAll K H vs (pys ds)
  | [], _, h, _ => by cases h; exact .nil
  | d :: ds, _, h, n => by
    cases h with
    | cons h hs =>
      simp only [noDs, Bool.and_eq_true] at n
      exact .cons (DD.dp h n.1) (DDs.dp hs n.2)
end
def eqOk (d : D) : Bool := d.noD && SeqAt.shaped d.py
def pEqD : D → D → Option D := fun x y => if eqOk x && eqOk y then some (.bl (PyData.eqv x.py y.py)) else none
def pNeD : D → D → Option D := fun x y => if eqOk x && eqOk y then some (.bl (!PyData.eqv x.py y.py)) else none
theorem noD_ro {d : D} (h : d.noD = true) : isRo d = false := by cases d <;> first | rfl | (simp [D.noD] at h)
theorem ps_eqD {K : PySem.W.Frag} : Ps2 K (rEqD K) pEqD := by
  intro H x y dx dy d Q hx hy hp q
  unfold pEqD eqOk at hp
  split at hp
  · rename_i hc
    cases hp
    simp only [Bool.and_eq_true] at hc
    obtain ⟨⟨c1, c2⟩, c3, c4⟩ := hc
    exact ⟨_, _, (hx.dd (noD_ro c1)).dp c1, (hy.dd (noD_ro c3)).dp c3, c2, c4, q _ (.bl _)⟩
  · cases hp
theorem ps_neD {K : PySem.W.Frag} : Ps2 K (rNeD K) pNeD := by
  intro H x y dx dy d Q hx hy hp q
  unfold pNeD eqOk at hp
  split at hp
  · rename_i hc
    cases hp
    simp only [Bool.and_eq_true] at hc
    obtain ⟨⟨c1, c2⟩, c3, c4⟩ := hc
    exact ⟨_, _, (hx.dd (noD_ro c1)).dp c1, (hy.dd (noD_ro c3)).dp c3, c2, c4, q _ (.bl _)⟩
  · cases hp
def scalD : D → D → Bool
  | .int _, .int _ => true
  | .str _, .str _ => true
  | .bl _, .bl _ => true
  | _, _ => false
def eqS : D → D → Bool
  | .int a, .int b => decide (a = b)
  | .str a, .str b => decide (a = b)
  | .bl a, .bl b => decide (a = b)
  | _, _ => false
def pEqS : D → D → Option D := fun x y => if scalD x y then some (.bl (eqS x y)) else none
def pNeS : D → D → Option D := fun x y => if scalD x y then some (.bl (!eqS x y)) else none
theorem RV.scalar {K : PySem.W.Frag} {H : Hp} {v : V} {d : D} (h : RV K H v d) : (∀ i, d = .int i → v = .int i) ∧ (∀ z, d = .str z → v = .str z) ∧ (∀ b, d = .bl b → v = .bl b) ∧ (d = .non → v = .non) := by
  rcases h with ⟨_, _, rfl, _⟩ | h
  · exact ⟨(fun _ z => nomatch z), (fun _ z => nomatch z), (fun _ z => nomatch z), (fun z => nomatch z)⟩
  · cases h <;> simp_all
theorem RV.int {K : PySem.W.Frag} {H : Hp} {v : V} {i : Int} (h : RV K H v (.int i)) : v = .int i := h.scalar.1 i rfl
theorem RV.str {K : PySem.W.Frag} {H : Hp} {v : V} {i : Str} (h : RV K H v (.str i)) : v = .str i := h.scalar.2.1 i rfl
theorem RV.non {K : PySem.W.Frag} {H : Hp} {v : V} (h : RV K H v .non) : v = .non := h.scalar.2.2.2 rfl
theorem ps_eqS {K : PySem.W.Frag} : Ps2 K rEq pEqS := by
  intro H x y dx dy d Q hx hy hp q
  unfold pEqS at hp
  split at hp
  · rename_i hc
    cases hp
    unfold scalD at hc
    split at hc
    · rw [hx.int, hy.int]; exact ⟨rfl, by rw [dec_int]; exact (by have := q _ (DD.bl _); simpa [eqS, Bool.beq_eq_decide_eq] using this)⟩
    · rw [hx.str, hy.str]; exact ⟨rfl, by have := q _ (DD.bl _); simpa [eqS] using this⟩
    · rw [hx.bl, hy.bl]; exact ⟨rfl, by have := q _ (DD.bl _); simpa [eqS] using this⟩
    · cases hc
  · cases hp
theorem ps_neS {K : PySem.W.Frag} : Ps2 K rNe pNeS := by
  intro H x y dx dy d Q hx hy hp q
  unfold pNeS at hp
  split at hp
  · rename_i hc
    cases hp
    unfold scalD at hc
    split at hc
    · rw [hx.int, hy.int]; exact ⟨rfl, by have := q _ (DD.bl _); simpa [eqS] using this⟩
    · rw [hx.str, hy.str]; exact ⟨rfl, by have := q _ (DD.bl _); simpa [eqS] using this⟩
    · rw [hx.bl, hy.bl]; exact ⟨rfl, by have := q _ (DD.bl _); simpa [eqS] using this⟩
    · cases hc
  · cases hp
end VD

set_option Elab.async false
set_option linter.all false
set_option maxRecDepth 100000
set_option maxHeartbeats 4000000
set_option exponentiation.threshold 20000
namespace VD
open PySem PySem.Spec L2 MC
open PyProof.Rows hiding St

def pI (c : Int → Int → Bool) (g : Int → Int → Int) : D → D → Option D := fun x y => match x, y with
  | .int i, .int j => if c i j then some (.int (g i j)) else none
  | _, _ => none
def pIB (g : Int → Int → Bool) : D → D → Option D := fun x y => match x, y with
  | .int i, .int j => some (.bl (g i j))
  | _, _ => none
section
variable {K : PySem.W.Frag}
theorem ps_rI {C : Int → Int → Prop} {c : Int → Int → Bool} {g : Int → Int → Int} (h : ∀ i j, c i j = true → C i j) : Ps2 K (rI C fun i j => .int (g i j)) (pI c g) := by
  intro H x y dx dy d Q hx hy hp q
  unfold pI at hp
  split at hp
  · split at hp
    · rename_i hc
      cases hp
      rw [hx.int, hy.int]
      exact ⟨_, _, rfl, rfl, h _ _ hc, q _ (.int _)⟩
    · cases hp
  · cases hp
theorem ps_rI0 {g : Int → Int → Int} : Ps2 K (rI0 fun i j => .int (g i j)) (pI (fun _ _ => true) g) := by
  intro H x y dx dy d Q hx hy hp q
  unfold pI at hp
  split at hp
  · cases hp
    rw [hx.int, hy.int]
    exact ⟨_, _, rfl, rfl, q _ (.int _)⟩
  · cases hp
theorem ps_rIB {g : Int → Int → Bool} : Ps2 K (rI0 fun i j => .bl (g i j)) (pIB g) := by
  intro H x y dx dy d Q hx hy hp q
  unfold pIB at hp
  split at hp
  · cases hp
    rw [hx.int, hy.int]
    exact ⟨_, _, rfl, rfl, q _ (.bl _)⟩
  · cases hp
def pAdd := pI (fun _ _ => true) (· + ·)
def pSub := pI (fun _ _ => true) (· - ·)
def bigB (i : Int) : Bool := decide (-(10 ^ 200) < i) && decide (i < 10 ^ 200)
def mulB (i j : Int) : Bool := decide (i.natAbs.log2 + j.natAbs.log2 < 1000000)
theorem mulB_of {i j : Int} {a b : Nat} (ha : i.natAbs < 2 ^ a) (hb : j.natAbs < 2 ^ b) (h0 : 0 < a) (h1 : 0 < b) (h : a + b ≤ 1000000) : mulB i j = true := by
  have := wide_mul ha hb h0 h1 h
  unfold CMulW at this
  exact decide_eq_true this
def pMul := pI mulB (· * ·)
def divB (_ j : Int) : Bool := decide (0 < j) && bigB j
def pDiv := pI divB (· / ·)
def modB (_ j : Int) : Bool := decide (0 < j)
def pMod := pI modB (· % ·)
def powB (i j : Int) : Bool := decide (0 ≤ j) && decide (j ≤ 1000) && bigB i
def pPow := pI powB fun i j => i ^ j.toNat
theorem bigB_out {i : Int} (h : bigB i = true) : i.natAbs < 2 ^ 700 := by
  unfold bigB at h
  simp only [Bool.and_eq_true, decide_eq_true_eq] at h
  have : i.natAbs < 10 ^ 200 := by omega
  exact Nat.lt_of_lt_of_le this (by decide)
def CPowW (i j : Int) : Prop := 0 ≤ j ∧ j ≤ 1000 ∧ i.natAbs < 2 ^ 1000
theorem op_powW {X : Cx} : OpR X (binaryOp .Pow) (rI CPowW fun i j => .int (i ^ j.toNat)) := opI fun i j _ _ _ _ _ hc q => by
  obtain ⟨h0, h1, h2⟩ := hc
  refine PyProof.Rows.pow_int h0 ?_ q
  have b : Builtin.Int.intBits i ≤ i.natAbs.log2 + 1 := by
    unfold Builtin.Int.intBits
    split <;> omega
  have l := PySem.Flt.log2_lt_of (by decide) h2
  have h3 : (Builtin.Int.intBits i : Int) ≤ 1000 := by omega
  have h4 : (Builtin.Int.intBits i : Int) * j ≤ 1000 * 1000 := Int.mul_le_mul h3 h1 h0 (by decide)
  omega
theorem ps_add : Ps2 K (rI0 fun i j => .int (i + j)) pAdd := ps_rI0
theorem ps_sub : Ps2 K (rI0 fun i j => .int (i - j)) pSub := ps_rI0
theorem ps_mul : Ps2 K (rI CMulW fun i j => .int (i * j)) pMul := ps_rI fun i j h => by
  unfold CMulW
  simpa [mulB] using h
theorem ps_fdiv : Ps2 K (rI CDivW fun i j => .int (i / j)) pDiv := ps_rI fun i j h => by
  unfold divB at h
  rw [Bool.and_eq_true, decide_eq_true_eq] at h
  exact wide_div h.1 (bigB_out h.2) (by decide) (by decide)
theorem ps_mod : Ps2 K (rI (fun _ j => 0 < j) fun i j => .int (i % j)) pMod := ps_rI fun i j h => by
  unfold modB at h
  simpa using h
theorem ps_pow : Ps2 K (rI CPowW fun i j => .int (i ^ j.toNat)) pPow := ps_rI fun i j h => by
  unfold powB at h
  simp only [Bool.and_eq_true, decide_eq_true_eq] at h
  exact ⟨h.1.1, h.1.2, Nat.lt_of_lt_of_le (bigB_out h.2) (by decide)⟩
def pLt := pIB fun i j => decide (i < j)
def pLe := pIB fun i j => decide (i ≤ j)
def pGt := pIB fun i j => decide (j < i)
def pGe := pIB fun i j => decide (j ≤ i)
theorem ps_lt : Ps2 K (rI0 fun i j => .bl (decide (i < j))) pLt := ps_rIB
theorem ps_le : Ps2 K (rI0 fun i j => .bl (decide (i ≤ j))) pLe := ps_rIB
theorem ps_gt : Ps2 K (rI0 fun i j => .bl (decide (j < i))) pGt := ps_rIB
theorem ps_ge : Ps2 K (rI0 fun i j => .bl (decide (j ≤ i))) pGe := ps_rIB
end

def isNon : D → Bool
  | .non => true
  | _ => false
def pIsN : D → D → Option D := fun x y => match y with | .non => some (.bl (isNon x)) | _ => none
theorem RV.isNon {K : PySem.W.Frag} {H : Hp} {v : V} {d : D} (h : RV K H v d) : decide (v = .non) = VD.isNon d := by
  rcases h with ⟨a, ns, rfl, rfl, _⟩ | h
  · simp [VD.isNon]
  · cases h <;> simp [VD.isNon]
section
variable {K : PySem.W.Frag}
theorem ps_isN : Ps2 K (fun x y H Q => y = .non ∧ Q (.bl (decide (x = .non))) H) pIsN := by
  intro H x y dx dy d Q hx hy hp q
  unfold pIsN at hp
  split at hp
  · cases hp
    rw [hx.isNon]
    exact ⟨hy.non, q _ (.bl _)⟩
  · cases hp
def pIsB : D → D → Option D := fun x y => match x, y with
  | .int _, .bl _ => some (.bl false)
  | .bl a, .bl b => some (.bl (decide (a = b)))
  | _, _ => none
def rIsIB : R2 := fun x y H Q => ∃ (i : Int) (b : Bool), x = .int i ∧ y = .bl b ∧ Q (.bl false) H
theorem op_isIB {X : Cx} : OpR X (compareOp .Is) rIsIB := by
  intro pins s σ H x y v u Q I rX ry h
  obtain ⟨i, b, rfl, rfl, q⟩ := h
  obtain ⟨t, rfl⟩ := rX
  cases (show u = Value.bool b from ry)
  exact wpAny_is_other rfl (fun z => nomatch z) ⟨.bl false, H, I, rfl, q⟩
def rIsX : R2 := fun x y H Q => rIsIB x y H Q ∨ rIsB x y H Q
theorem op_isX {X : Cx} : OpR X (compareOp .Is) rIsX := op_isIB.or op_isBl
theorem ps_isX : Ps2 K rIsX pIsB := by
  intro H x y dx dy d Q hx hy hp q
  unfold pIsB at hp
  split at hp
  · cases hp
    rw [hx.int, hy.bl]; exact .inl ⟨_, _, rfl, rfl, q _ (.bl _)⟩
  · cases hp
    rw [hx.bl, hy.bl]; exact .inr ⟨_, _, rfl, rfl, q _ (.bl _)⟩
  · cases hp
end

def d1 (p : D → Option D) (da : Ev → Option (D × Ev)) : Ev → Option (D × Ev) := fun e => match da e with
  | some (x, e1) => match p x with | some z => some (z, e1) | none => none
  | none => none
def pNeg : D → Option D := fun x => match x with | .int i => some (.int (-i)) | _ => none
section
variable {X : Cx} {F : Fx} {R : Rl} {NM : List Nat} {a b c : Expr} {es : List Expr} {pos : Pos} {da db dc : Ev → Option (D × Ev)} {ds : Ev → Option (List D × Ev)} {A A1 A2 A3 M M1 M2 M3 : List Nat} {As : List (List Nat)}
theorem ve_neg (h : VE X F R NM a da A M) : VE X F R NM (.UnaryOp .USub a pos) (d1 pNeg da) [] M := by
  obtain ⟨t, p, s⟩ := h.ex
  refine ⟨_, pe_un un_neg p, fun PH hP σ H e S Q d e' r hd q => ?_⟩
  unfold d1 at hd
  split at hd
  · rename_i x e1 hx
    split at hd
    · rename_i z hz
      cases hd
      refine s PH hP σ H e S _ _ _ r hx fun v H1 S1 T st1 r1 tm1 => ?_
      unfold pNeg at hz
      split at hz
      · cases hz
        exact ⟨_, tm1.rv.int, q _ H1 S1 _ st1 r1 (Sc.tm (DD.int _))⟩
      · cases hz
    · cases hd
  · cases hd
def dChain (p p' : D → D → Option D) (da db dc : Ev → Option (D × Ev)) : Ev → Option (D × Ev) := fun e => match da e with
  | some (x, e1) => match db e1 with
    | some (y, e2) => match p x y with
      | some (.bl true) => match dc e2 with
        | some (z, e3) => match p' y z with | some w => some (w, e3) | none => none
        | none => none
      | some (.bl false) => some (.bl false, e2)
      | _ => none
    | none => none
  | none => none
end
end VD

set_option Elab.async false
set_option linter.all false
set_option maxRecDepth 100000
set_option maxHeartbeats 4000000
set_option exponentiation.threshold 20000
namespace VD
open PySem PySem.Spec L2 MC
open PyProof.Rows hiding St

section
variable {X : Cx} {F : Fx} {R : Rl} {NM : List Nat} {a b c : Expr} {es : List Expr} {pos : Pos} {da db dc : Ev → Option (D × Ev)} {ds : Ev → Option (List D × Ev)} {A A1 A2 A3 M M1 M2 M3 : List Nat} {As : List (List Nat)}
theorem se_chain {K : PySem.W.Frag} {ta tb tc : TE} {r r' : R2} {p p' : D → D → Option D} (hp : Ps2 K r p) (hp' : Ps2 K r' p') (h1 : SE K F R NM ta da A1 M1) (h2 : SE K F R NM tb db A2 M2) (h3 : SE K F R NM tc dc A3 M3) (c1 : clear R A1 M2 = true) (c2 : clear R A2 M3 = true) :
    SE K F R NM (tChain r r' ta tb tc) (dChain p p' da db dc) [] (M1 ++ M2 ++ M3) := by
  intro PH hP σ H e S Q d e' rr hd q
  unfold dChain at hd
  split at hd
  · rename_i x e1 hx
    split at hd
    · rename_i y e2 hy
      refine h1 PH hP σ H e S _ _ _ rr hx fun v H1 S1 T st1 r1 tm1 => ?_
      refine h2 PH hP σ H1 _ S1 _ _ _ r1 hy fun u H2 S2 U st2 r2 tm2 => ?_
      have t1 := tm1.step r1 st2 c1
      split at hd
      · rename_i hpr
        split at hd
        · rename_i z e3 hz
          split at hd
          · rename_i w hw
            cases hd
            refine hp H2 v u _ _ _ _ (t1.rv.mono res_same) (tm2.rv.mono res_same) hpr fun k hk => ?_
            cases hk
            refine ⟨true, rfl, ?_⟩
            rw [if_pos rfl]
            refine h3 PH hP σ H2 _ S2 _ _ _ r2 hz fun w' H3 S3 W st3 r3 tm3 => ?_
            have t2 := tm2.step r2 st3 c2
            exact hp' H3 u w' _ _ _ _ (t2.rv.mono res_same) (tm3.rv.mono res_same) hw fun k hk => q k H3 S3 _ ((st1.trans st2).trans st3) r3 hk.tm
          · cases hd
        · cases hd
      · rename_i hpr
        cases hd
        refine hp H2 v u _ _ _ _ (t1.rv.mono res_same) (tm2.rv.mono res_same) hpr fun k hk => ?_
        cases hk
        refine ⟨false, rfl, ?_⟩
        rw [if_neg Bool.false_ne_true]
        exact q _ H2 S2 _ ((st1.trans st2).weak fun m hm => List.mem_append_left _ hm) r2 (Sc.tm (DD.bl _))
      · cases hd
    · cases hd
  · cases hd
theorem ve_chain {op op' : CmpOp} {r r' : R2} {p p' : D → D → Option D} (ho : OpR X (compareOp op) r) (hp : Ps2 X.K r p) (ho' : OpR X (compareOp op') r') (hp' : Ps2 X.K r' p') (h1 : VE X F R NM a da A1 M1) (h2 : VE X F R NM b db A2 M2) (h3 : VE X F R NM c dc A3 M3) (c1 : clear R A1 M2 = true := by rfl) (c2 : clear R A2 M3 = true := by rfl)
    (hm : lastMarks [op, op'] [b, c] = false := by with_unfolding_all rfl) : VE X F R NM (.Compare a [op, op'] [b, c] pos) (dChain p p' da db dc) [] (M1 ++ M2 ++ M3) := by
  obtain ⟨t1, p1, s1⟩ := h1.ex
  obtain ⟨t2, p2, s2⟩ := h2.ex
  obtain ⟨t3, p3, s3⟩ := h3.ex
  exact ⟨_, pe_chain ho ho' p1 p2 p3 hm, se_chain hp hp' s1 s2 s3 c1 c2⟩
theorem vt_chain {op op' : CmpOp} {r r' : R2} {p p' : D → D → Option D} (ho : OpR X (compareOp op) r) (hp : Ps2 X.K r p) (ho' : OpR X (compareOp op') r') (hp' : Ps2 X.K r' p') (h1 : VE X F R NM a da A1 M1) (h2 : VE X F R NM b db A2 M2) (h3 : VE X F R NM c dc A3 M3) (c1 : clear R A1 M2 = true := by rfl) (c2 : clear R A2 M3 = true := by rfl)
    (hm : lastMarks [op, op'] [b, c] = false := by with_unfolding_all rfl) : VT X F R NM (.Compare a [op, op'] [b, c] pos) (dBool (dChain p p' da db dc)) (M1 ++ M2 ++ M3) := by
  obtain ⟨t1, p1, s1⟩ := h1.ex
  obtain ⟨t2, p2, s2⟩ := h2.ex
  obtain ⟨t3, p3, s3⟩ := h3.ex
  exact ⟨_, pt_chain ho ho' p1 p2 p3 hm, st_bool (se_chain hp hp' s1 s2 s3 c1 c2)⟩
end

section
variable {K : PySem.W.Frag}
def elemsD : D → Option (List D)
  | .lst xs => some xs
  | .tup xs => some xs
  | .ro ns => some (ns.map D.int)
  | _ => none
theorem dds_ints {H : Hp} (ns : List Int) : DDs H (ns.map V.int) (ns.map D.int) := by
  induction ns with
  | nil => exact .nil
  | cons n ns ih => exact .cons (.int n) ih
theorem RV.seq {H : Hp} {v : V} {d : D} {ds : List D} (h : RV K H v d) (e : elemsD d = some ds) : ∃ p xs, v = .ref p ∧ (SqL K H p xs ∨ SqT K H p xs) ∧ DDs H xs ds := by
  rcases h with ⟨a, ns, rfl, rfl, h⟩ | h
  · cases e
    exact ⟨a, _, rfl, .inl h, dds_ints ns⟩
  · cases h with
    | lst h hs => cases e; exact ⟨_, _, rfl, .inl (SqL.of h), hs⟩
    | tup h hs => cases e; exact ⟨_, _, rfl, .inr (SqT.of h), hs⟩
    | _ => cases e
theorem atI_map {H : Hp} {xs : List V} {ds : List D} (h : DDs H xs ds) {i : Int} {d : D} (e : atI ds i = some d) : ∃ v, atI xs i = some v ∧ DD H v d := by
  unfold atI at e ⊢
  rw [h.length]
  obtain ⟨j, e1, e2⟩ := Option.bind_eq_some_iff.mp e
  obtain ⟨v, h1, h2⟩ := h.get e2
  exact ⟨v, by rw [e1]; exact h1, h2⟩
def pIx : D → D → Option D := fun x y => match elemsD x, y with
  | some xs, .int i => atI xs i
  | _, _ => none
theorem SqL.up {H H' : Hp} {a : Addr} {xs : List V} (e : Same H H') (h : SqL K H a xs) : SqL K H' a xs := e.seq h
theorem SqT.up {H H' : Hp} {a : Addr} {xs : List V} (e : Same H H') (h : SqT K H a xs) : SqT K H' a xs := by
  rcases h with (h | ⟨o, h⟩) | h
  · exact .inl (.inl (e _ _ h))
  · exact .inl (.inr ⟨o, e _ _ h⟩)
  · exact .inr h
theorem gr_part {H : Hp} {T : Addr → Prop} {v : V} {d : D} (h : RV K (Res T H) v d) : Gr K H T H T v d := ⟨Same.refl H, h, fun b q => .inl q⟩
def rIxQ (K : PySem.W.Frag) : R2 := fun x y H Q => rIxL K x y H Q ∨ rIxT K x y H Q
theorem ix_q {X : Cx} : IxR X (rIxQ X.K) := ix_list.or ix_tup
theorem pg_ix : Pg2 K (rIxQ K) pIx := by
  intro H T x y dx dy d Q hx hy hp q
  unfold pIx at hp
  split at hp
  · rename_i xs i he
    obtain ⟨p, vs, rfl, h1, h2⟩ := hx.seq he
    obtain ⟨v, h3, h4⟩ := atI_map h2 hp
    rw [hy.int]
    have fin := q v H T (gr_part (.inr h4))
    rcases h1 with h1 | h1
    · exact .inl ⟨p, vs, _, v, rfl, rfl, SqL.up res_same h1, h3, fin⟩
    · exact .inr ⟨p, vs, _, v, rfl, rfl, SqT.up res_same h1, h3, fin⟩
  · cases hp
def pLen : List D → Option D := fun ds => match ds with
  | [.lst xs] => some (.int xs.length)
  | [.tup xs] => some (.int xs.length)
  | [.ro ns] => some (.int ns.length)
  | [.dct es] => some (.int es.length)
  | [.str z] => if z.length ≤ sizeLine then some (.int z.length) else none
  | _ => none
def rLenD : List V → Hp → VK → Prop := fun xs H Q => ∃ p kvs, xs = [.ref p] ∧ Rd H p (.dK kvs) ∧ Q (.int kvs.length) H
theorem call_lenD {X : Cx} : CallR X (.builtin "len") rLenD := by
  intro pins s σ H xs us Q I r h
  obtain ⟨p, kvs, rfl, hd, q⟩ := h
  obtain ⟨u, rfl, rx⟩ := vals1 r
  cases rx
  exact d_len I hd fun t s' I' => ⟨.int _, H, I', ⟨t, rfl⟩, q⟩
def rLenQ (K : PySem.W.Frag) : List V → Hp → VK → Prop := fun xs H Q => ∃ p ys, xs = [.ref p] ∧ (SqL K H p ys ∨ SqT K H p ys) ∧ Q (.int ys.length) H
def rLenZ : List V → Hp → VK → Prop := fun xs H Q => ∃ z, xs = [.str z] ∧ z.length ≤ sizeLine ∧ Q (.int z.length) H
def rLenX (K : PySem.W.Frag) : List V → Hp → VK → Prop := fun xs H Q => rLenQ K xs H Q ∨ (rLenZ xs H Q ∨ rLenD xs H Q)
theorem call_lenX {X : Cx} : CallR X (.builtin "len") (rLenX X.K) := CallR.or call_len_seq (CallR.or call_len_str call_lenD)
theorem ps_len : PsL K (rLenX K) pLen := by
  intro H vs ds d Q h hp q
  unfold pLen at hp
  split at hp
  · cases hp
    cases h with | cons h hs => cases hs; obtain ⟨p, xs, rfl, h1, h2⟩ := h.seq rfl; exact .inl ⟨p, xs, rfl, h1, by rw [h2.length]; exact q _ (.int _)⟩
  · cases hp
    cases h with | cons h hs => cases hs; obtain ⟨p, xs, rfl, h1, h2⟩ := h.seq rfl; exact .inl ⟨p, xs, rfl, h1, by rw [h2.length]; exact q _ (.int _)⟩
  · cases hp
    cases h with | cons h hs => cases hs; obtain ⟨p, xs, rfl, h1, h2⟩ := h.seq rfl; exact .inl ⟨p, xs, rfl, h1, by have := q (.int xs.length); rw [h2.length, List.length_map] at this ⊢; exact this (.int _)⟩
  · cases hp
    cases h with
    | cons h hs =>
      cases hs
      have h := h.dd rfl
      cases h with
      | @dct a kvs _ h1 h2 => exact .inr (.inr ⟨a, kvs, rfl, h1, by rw [h2.length]; exact q _ (.int _)⟩)
  · split at hp
    · cases hp
      cases h with | cons h hs => cases hs; rw [h.str]; exact .inr (.inl ⟨_, rfl, by assumption, q _ (.int _)⟩)
    · cases hp
  · cases hp
def pIxS : D → D → Option D := fun x y => match x, y with
  | .str z, .int i => if z.length ≤ sizeLine then (atI z.cps.toList i).map fun c => .str ⟨#[c]⟩ else none
  | _, _ => none
theorem ps_ixS : Ps2 K rIxS pIxS := by
  intro H x y dx dy d Q hx hy hp q
  unfold pIxS at hp
  split at hp
  · split at hp
    · rename_i hl
      obtain ⟨c, h1, rfl⟩ := Option.map_eq_some_iff.mp hp
      rw [hx.str, hy.int]
      exact ⟨_, _, c, rfl, rfl, hl, h1, q _ (.str _)⟩
    · cases hp
  · cases hp
def pCat : D → D → Option D := fun x y => match x, y with
  | .lst xs, .lst ys => if xs.length + ys.length ≤ sizeLine then some (.lst (xs ++ ys)) else none
  | _, _ => none
def pRep : D → D → Option D := fun x y => match x, y with
  | .lst xs, .int k => if decide (-(2 ^ 63) ≤ k) && decide (k < 2 ^ 63) && decide (xs.length * k.toNat ≤ sizeLine) then some (.lst (List.replicate k.toNat xs).flatten) else none
  | _, _ => none
theorem DDs.rep {H : Hp} {vs : List V} {ds : List D} (h : DDs H vs ds) : ∀ k : Nat, DDs H (List.replicate k vs).flatten (List.replicate k ds).flatten
  | 0 => .nil
  | k + 1 => by rw [List.replicate_succ, List.replicate_succ, List.flatten_cons, List.flatten_cons]; exact h.append (DDs.rep h k)
def pList : List D → Option D := fun ds => match ds with
  | [.lst xs] => some (.lst xs)
  | [.tup xs] => some (.lst xs)
  | _ => none
def pTuple : List D → Option D := fun ds => match ds with
  | [.lst xs] => some (.tup xs)
  | [.tup xs] => some (.tup xs)
  | _ => none
def rTupleOf (K : PySem.W.Frag) : List V → Hp → VK → Prop := fun xs H Q => ∃ p ys, xs = [.ref p] ∧ ((SqL K H p ys ∧ ∀ l, H l = none → Q (.ref l) (upd H l (.tup ys))) ∨ (SqT K H p ys ∧ Q (.ref p) H))
theorem call_tupleOf {X : Cx} : CallR X (.type "tuple") (rTupleOf X.K) := call_tuple_of
theorem pg_tuple : PgL K (rTupleOf K) pTuple := by
  intro H T vs ds d Q h hp q
  unfold pTuple at hp
  split at hp
  · cases hp
    cases h with
    | cons h hs =>
      cases hs
      have h := h.dd rfl
      cases h with
      | @lst a xs _ h1 h2 => exact ⟨a, xs, rfl, .inl ⟨SqL.of (res_some h1).2, fun l hl => q _ _ _ (gr_new hl (fun _ _ z => nomatch z) fun H' sm hp' => .tup hp' (h2.mono sm))⟩⟩
  · cases hp
    cases h with
    | cons h hs =>
      cases hs
      have h0 := h
      have h := h.dd rfl
      cases h with
      | @tup a xs _ h1 h2 => exact ⟨a, xs, rfl, .inr ⟨SqT.of (res_some h1).2, q _ H T (gr_part h0)⟩⟩
  · cases hp
def pMin2 : List D → Option D := fun ds => match ds with
  | [.int i, .int j] => some (.int (min i j))
  | _ => none
def pMax2 : List D → Option D := fun ds => match ds with
  | [.int i, .int j] => some (.int (max i j))
  | _ => none
theorem RVs.int2 {H : Hp} {vs : List V} {i j : Int} (h : RVs K H vs [.int i, .int j]) : vs = [.int i, .int j] := by
  cases h with | cons h hs => cases hs with | cons h' hs => cases hs; rw [h.int, h'.int]
theorem RVs.one {H : Hp} {vs : List V} {d : D} (h : RVs K H vs [d]) : ∃ v, vs = [v] ∧ RV K H v d := by
  cases h with | cons h hs => cases hs; exact ⟨_, rfl, h⟩
theorem ps_min2 : PsL K (fun xs H Q => ∃ i j, xs = [.int i, .int j] ∧ Q (.int (if j < i then j else i)) H) pMin2 := by
  intro H vs ds d Q h hp q
  unfold pMin2 at hp
  split at hp
  · cases hp
    rename_i i j
    refine ⟨i, j, h.int2, ?_⟩
    have : (if j < i then j else i) = min i j := by rw [Int.min_def]; split <;> split <;> omega
    rw [this]; exact q _ (.int _)
  · cases hp
theorem ps_max2 : PsL K (fun xs H Q => ∃ i j, xs = [.int i, .int j] ∧ Q (.int (if j > i then j else i)) H) pMax2 := by
  intro H vs ds d Q h hp q
  unfold pMax2 at hp
  split at hp
  · cases hp
    rename_i i j
    refine ⟨i, j, h.int2, ?_⟩
    have : (if j > i then j else i) = max i j := by rw [Int.max_def]; split <;> split <;> omega
    rw [this]; exact q _ (.int _)
  · cases hp
def pAbs : List D → Option D := fun ds => match ds with
  | [.int i] => some (.int i.natAbs)
  | _ => none
theorem ps_abs : PsL K (fun xs H Q => ∃ i, xs = [.int i] ∧ Q (.int (if i < 0 then -i else i)) H) pAbs := by
  intro H vs ds d Q h hp q
  unfold pAbs at hp
  split at hp
  · cases hp
    rename_i i
    obtain ⟨v, rfl, hv⟩ := h.one
    refine ⟨i, by rw [hv.int], ?_⟩
    have : (if i < 0 then -i else i) = (i.natAbs : Int) := by split <;> omega
    rw [this]; exact q _ (.int _)
  · cases hp
def pInt : List D → Option D := fun ds => match ds with
  | [.int i] => some (.int i)
  | [.bl b] => some (.int (if b then 1 else 0))
  | _ => none
theorem ps_int : PsL K (fun xs H Q => (∃ i, xs = [.int i] ∧ Q (.int i) H) ∨ ∃ k, xs = [.bl k] ∧ Q (.int (if k then 1 else 0)) H) pInt := by
  intro H vs ds d Q h hp q
  unfold pInt at hp
  split at hp
  · cases hp
    obtain ⟨v, rfl, hv⟩ := h.one
    exact .inl ⟨_, by rw [hv.int], q _ (.int _)⟩
  · cases hp
    obtain ⟨v, rfl, hv⟩ := h.one
    exact .inr ⟨_, by rw [hv.bl], q _ (.int _)⟩
  · cases hp
end

def D.ty : D → String
  | .non => "NoneType"
  | .bl _ => "bool"
  | .int _ => "int"
  | .str _ => "str"
  | .lst _ => "list"
  | .tup _ => "tuple"
  | .dct _ => "dict"
  | .ro _ => "list"
def tyIs (b a : String) : Bool := (a == b) || (b == "int" && a == "bool")
theorem DD.tyx {K : PySem.W.Frag} {H : Hp} {x : V} {d : D} (h : DD H x d) : TyX K H x (.type d.ty) := by
  cases h with
  | non => exact .base .non
  | bl b => exact .base (.bl b)
  | int i => exact .base (.int i)
  | str z => exact .base (.str z)
  | lst h _ => exact .base (.lst h)
  | tup h _ => exact .base (.tup h)
  | dct h _ =>
    rcases h with h | ⟨o, h⟩
    · exact .base (.dK h)
    · exact .fDict h
theorem kbs : ∀ a ∈ ["NoneType", "bool", "int", "str", "list", "tuple", "dict"], ∀ b ∈ ["str", "int", "bool", "list", "tuple", "dict"], kitB a b = some (tyIs b a) := by decide +kernel
theorem D.ty_mem (d : D) : d.ty ∈ ["NoneType", "bool", "int", "str", "list", "tuple", "dict"] := by cases d <;> simp [D.ty]
theorem kb_of {K : PySem.W.Frag} {d : D} (b : String) (hb : b ∈ ["str", "int", "bool", "list", "tuple", "dict"]) : PySem.W.kitOne K (.type d.ty) (.type b) = some (tyIs b d.ty) := kit_ty (kbs _ d.ty_mem b hb)
def pIsi (T : String) : D → Option D := fun d => if isRo d then none else some (.bl (tyIs T d.ty))
section
variable {X : Cx} {F : Fx} {R : Rl} {NM : List Nat} {a b c : Expr} {es : List Expr} {p p2 pos : Pos} {da db dc : Ev → Option (D × Ev)} {A M : List Nat}
theorem ve_isi (T : String) {x : Str} (hT : T ∈ ["str", "int", "bool", "list", "tuple", "dict"]) (hg : Gl X "isinstance") (hm : X.mg "isinstance" = none) (hg2 : Gl X x) (hm2 : X.mg x = none) (hv2 : bootBuiltins x = some (.type T)) (h : VE X F R NM a da A M) (hn : x ≠ "__name__" := by decide) (hd : (x == ("__debug__" : Str)) = false := by decide)
    (he : starEach (a :: [.Name x p2]) X.env = (false, eval a X.env) :: starEach [.Name x p2] X.env := by rfl) (he2 : starEach (.Name x p2 :: []) X.env = (false, eval (.Name x p2) X.env) :: starEach [] X.env := by rfl) (hpl : (backTo pos (starEach [.Name x p2] X.env)).any (·.1) = false := by rfl) :
    VE X F R NM (.Call (.Name "isinstance" p) [a, .Name x p2] [] pos) (d1 (pIsi T) da) [] M := by
  obtain ⟨t, q, s⟩ := h.ex
  refine ⟨_, pe_callB call_isi hg hm (by first | rfl | decide +kernel) (pa_cons q (pa_cons (pe_bltn (v := .ty T) hg2 hm2 hv2 rfl hn hd) pa_nil he2) he) (by decide) (by decide) he hpl, fun PH hP σ H e S Q d e' r hd q => ?_⟩
  unfold d1 at hd
  split at hd
  · rename_i y e1 hx
    split at hd
    · rename_i z hz
      cases hd
      refine s PH hP σ H e S _ _ _ r hx fun v H1 S1 T1 st1 r1 tm1 => ?_
      unfold pIsi at hz
      split at hz
      · cases hz
      · rename_i hro
        cases hz
        exact ⟨v, .ty T, _, _, _, rfl, .ty _, ((tm1.rv.mono res_same).dd (by simpa using hro)).tyx, kb_of T hT, q _ H1 S1 _ st1 r1 (Sc.tm (DD.bl _))⟩
    · cases hd
  · cases hd
end
end VD

set_option Elab.async false
set_option linter.all false
set_option maxRecDepth 100000
set_option maxHeartbeats 4000000
set_option exponentiation.threshold 20000
namespace VD
open PySem PySem.Spec L2 MC
open PyProof.Rows hiding St

section
variable {X : Cx} {F : Fx} {R : Rl} {NM : List Nat} {a b c : Expr} {es : List Expr} {p1 apos pos : Pos} {da db dc : Ev → Option (D × Ev)} {ds : Ev → Option (List D × Ev)} {A A1 A2 A3 M M1 M2 M3 : List Nat} {As : List (List Nat)} {id : String} {name : Str} {r : V → List V → Hp → VK → Prop} {Rb : Rl} {al : List Nat}
theorem ve_mutL (x : Nat) (ks : List Nat) {y : Str} {p : List D → List D → Option (D × List D)} (slot : Slot "list" name id) (hty : typeOf (.builtin id) = pure (.type "method_descriptor")) (hm : MtR X id r) (hp : PmL X.K r p) (ha : VA X F R NM (a :: es) ds As M) (ok : mutOk F NM R x = true := by rfl) (hk : killOk F R x ks = true := by rfl) (hA : As.flatten = [] := by rfl)
    (hN : X.N[x]? = some y := by rfl) (hv : Vis X.env.scope y := by first | exact Or.inl rfl | exact Or.inr (Or.inl rfl) | exact Or.inr (Or.inr rfl)) (hd : (y == ("__debug__" : Str)) = false := by decide) (hcd : (y == ("__classdict__" : Str)) = false := by decide)
    (hbase : attributeBase (.Name y p1) name X.env (eval (.Name y p1) X.env) = eval (.Name y p1) X.env := by rfl)
    (hfew : ((backTo pos (starEach (a :: es) X.env)).all (fun x => !x.1) && (backToKw pos (keywordEach [] X.env)).all (fun x => x.1.isSome)
      && decide ((a :: es).length + ([] : List Keyword).length + (if ([] : List Keyword).isEmpty then 0 else 1) < 30)) = true := by rfl)
    (hline : (apos.endLine == pos.line) = true := by rfl) (hs : starEach (a :: es) X.env = (false, eval a X.env) :: starEach es X.env := by rfl) (hplain : (backTo pos (starEach es X.env)).any (·.1) = false := by rfl) :
    VE X F R NM (.Call (.Attribute (.Name y p1) name apos) (a :: es) [] pos) (dMutL p x ks ds) [x] (M ++ [x]) := by
  obtain ⟨t, q, s⟩ := ha.ex
  exact ⟨_, pe_bm PySem.F.plainAttrs_list slot hty hm (pe_var hN hv hd hcd) q hbase hfew hline hs hplain, se_mutL hp s ok hk hA⟩
end
section
variable {K : PySem.W.Frag}
def mAppend : List D → List D → Option (D × List D) := fun xs es => match es with
  | [y] => if !isRo y && decide (xs.length < sizeLine) then some (.non, xs ++ [y]) else none
  | _ => none
theorem pm_append : PmL K rAppend mAppend := by
  intro H T U a xs ds vs es res ds' Q ha hs he hp q
  unfold mAppend at hp
  split at hp
  · split at hp
    · rename_i y hc
      rw [Bool.and_eq_true, Bool.not_eq_true', decide_eq_true_eq] at hc
      cases hp
      obtain ⟨v, rfl, h⟩ := he.one
      exact ⟨a, xs, v, rfl, rfl, ha, by rw [hs.length]; exact hc.2, q _ _ .non ((hs.mono (res_up fun b z => .inl z)).append (.cons ((h.dd hc.1).mono (res_up fun b z => .inr z)) .nil))⟩
    · cases hp
  · cases hp
theorem DDs.dropLast {H : Hp} {vs : List V} {ds : List D} (h : DDs H vs ds) : DDs H vs.dropLast ds.dropLast := by
  rw [List.dropLast_eq_take, List.dropLast_eq_take, h.length]; exact h.take _
def mPopAt : List D → List D → Option (D × List D) := fun xs es => match es with
  | [.int i] => match ixN xs.length i with
    | some j => match xs[j]? with | some y => if decide (xs.length < 2 ^ 62) then some (y, xs.eraseIdx j) else none | none => none
    | none => none
  | _ => none
theorem pm_popAt : PmL K rPopAt mPopAt := by
  intro H T U a xs ds vs es res ds' Q ha hs he hp q
  unfold mPopAt at hp
  split at hp
  · split at hp
    · rename_i i o j hj
      split at hp
      · rename_i y hy
        split at hp
        · rename_i hl
          rw [decide_eq_true_eq] at hl
          cases hp
          obtain ⟨v, rfl, h⟩ := he.one
          obtain ⟨h1, h2, h3, h4⟩ := ixN_seq hj
          obtain ⟨w, h5, h6⟩ := hs.get hy
          refine ⟨a, xs, i, j, w, rfl, by rw [h.int], ha, by omega, by omega, by rw [hs.length]; exact h1, h5, q w _ (h6.mono (res_up fun b z => .inl z)) ((hs.erase j).mono (res_up fun b z => .inl z))⟩
        · cases hp
      · cases hp
    · cases hp
  · cases hp
def mExtend : List D → List D → Option (D × List D) := fun xs es => match es with
  | [.lst ys] => if decide (xs.length + ys.length ≤ sizeLine) then some (.non, xs ++ ys) else none
  | _ => none
theorem pm_extend : PmL K rExtend mExtend := by
  intro H T U a xs ds vs es res ds' Q ha hs he hp q
  unfold mExtend at hp
  split at hp
  · split at hp
    · rename_i ys hc
      rw [decide_eq_true_eq] at hc
      cases hp
      obtain ⟨v, rfl, h⟩ := he.one
      have h := h.dd rfl
      cases h with
      | @lst b zs _ h1 h2 =>
        exact ⟨a, b, xs, zs, rfl, rfl, ha, (res_some h1).2, by rw [hs.length, h2.length]; exact hc, q _ _ .non ((hs.mono (res_up fun b z => .inl z)).append (h2.mono (res_up fun b z => .inr z)))⟩
    · cases hp
  · cases hp
end

section
variable {X : Cx} {F : Fx} {R Rn Rb : Rl} {NM : List Nat} {a b c : Expr} {p1 p2 pos : Pos} {da db dc : Ev → Option (D × Ev)} {A A1 A2 M M1 M2 : List Nat} {al : List Nat}
theorem vs_ret (h : VE X F R NM a da A M) (ok : retOk F NM R al A = true := by rfl) : VS X F R NM Rn Rb al (.Return (some a) pos) (sRt da) := by
  obtain ⟨t, p, s⟩ := h.ex
  refine ⟨_, ps_ret p, fun PH hP σ H e S D o r hd q => ?_⟩
  subst hP
  unfold sRt at hd
  split at hd
  · rename_i d e1 hx
    cases hd
    exact s PH rfl σ H e S _ _ _ r hx fun v H' S' T st r' t' => q v H' S' T (r'.fin t' r.dom ok)
  · cases hd
def sRtN : Ev → Option Out := fun e => some (.rt .non e)
def sPutL (x : Nat) (ks : List Nat) (dv di : Ev → Option (D × Ev)) : Ev → Option Out := fun e => match dv e with
  | some (v, e1) => match e1[x]? with
    | some (some (.lst _)) => match di e1 with
      | some (.int i, e2) => match e2[x]? with
        | some (some (.lst xs)) => match ixN xs.length i with
          | some j => if isRo v then none else some (.nx ((killL ks e2).set x (some (.lst (xs.set j v)))))
          | none => none
        | _ => none
      | _ => none
    | _ => none
  | none => none
theorem items_upd' {H : Hp} {T U : Addr → Prop} {a : Addr} {o : HO} (h : ∀ b, T b → b ≠ a ∧ U b) : Same (Res T H) (Res U (upd H a o)) := res_mono fun b y w e => ⟨(h b w).2, by rw [upd_ne (h b w).1]; exact e⟩
theorem vs_putL (x : Nat) (ks : List Nat) {y : Str} (hv1 : VE X F R NM b db A1 M1) (hi : VE X F R NM a da A2 M2) (ok : mutOk F NM R x = true := by rfl) (hk : killOk F R x ks = true := by rfl) (hA : A1 = [] := by rfl)
    (hN : X.N[x]? = some y := by rfl) (hv : Vis X.env.scope y := by first | exact Or.inl rfl | exact Or.inr (Or.inl rfl) | exact Or.inr (Or.inr rfl)) (hd : (y == ("__debug__" : Str)) = false := by decide) (hcd : (y == ("__classdict__" : Str)) = false := by decide)
    (hs : swapsWithSole [.Subscript (.Name y p1) a p2] b pos.line X.env = pure false := by rfl) (hw : swappedStores [.Subscript (.Name y p1) a p2] b X.env = pure none := by rfl) (h1 : (assignEach [.Subscript (.Name y p1) a p2] X.env).map (·.2) = [assign (.Subscript (.Name y p1) a p2) X.env] := by rfl)
    (ha : ∀ v, assign (.Subscript (.Name y p1) a p2) X.env v = (do
      let ov ← holding [v] (eval (.Name y p1) X.env)
      let iv ← holding [v, ov] (eval a X.env)
      standAt p2
      holding [v, ov, iv] (setItem ov iv v)
      release [v, ov, iv] []) := by intro _; rfl) : VS X F R NM R Rb al (.Assign [.Subscript (.Name y p1) a p2] b pos) (sPutL x ks db da) := by
  subst hA
  obtain ⟨t1, q1, s1⟩ := hv1.ex
  obtain ⟨t2, q2, s2⟩ := hi.ex
  refine ⟨_, ps_asg q1 (pg_sub (pe_var hN hv hd hcd) q2 set_list ha) hs hw h1, fun PH hP σ H e S D o r hd q => ?_⟩
  subst hP
  unfold sPutL at hd
  split at hd
  · rename_i v e1 hb
    split at hd
    · rename_i xs0 hx0
      split at hd
      · rename_i i e2 hi'
        split at hd
        · rename_i xs hx
          split at hd
          · rename_i j hj
            split at hd
            · cases hd
            · rename_i hro
              cases hd
              refine s1 PH rfl σ H e S _ _ _ r hb fun v1 H1 S1 T st1 r1 tm1 => ?_
              obtain ⟨ad0, ws0, g0, _, _, _⟩ := r1.ownL ok hx0
              refine ⟨_, g0, s2 PH rfl σ H1 e1 S1 _ _ _ r1 hi' fun v2 H2 S2 U st2 r2 tm2 => ?_⟩
              have t1' := tm1.step r1 st2 (by unfold clear; rfl)
              obtain ⟨ad, ws, g1, g2, g3, g4⟩ := r2.ownL ok hx
              rw [g0] at g1; cases g1
              refine ⟨ad0, ws, i, j, rfl, tm2.rv.int, g3, by rw [g4.length]; exact hj, ?_⟩
              have hT2 : ∀ b, T b → Imm H2 b ∨ (H b = none ∧ (∀ k, ¬ S2 k b) ∧ NFrz H2 b) := fun b tb => by
                rcases t1'.prv b tb with z | ⟨k, hk, _⟩ | z
                · exact .inl z
                · cases hk
                · exact .inr z
              have nta : ∀ b, ((S2 x b ∧ b ≠ ad0) ∨ T b) → b ≠ ad0 ∧ (S2 x b ∨ T b) := fun b w => by
                rcases w with w | w
                · exact ⟨w.2, .inl w.1⟩
                · refine ⟨fun z => ?_, .inr w⟩
                  subst z
                  rcases hT2 b w with ⟨ys, z⟩ | z
                  · rw [g3] at z; cases z
                  · exact z.2.1 x g2
              have hv1' : DD (Res T H2) v1 v := t1'.rv.dd (by simpa using hro)
              refine mut_end (Q := fun _ H' => D.nx σ H') (v := .non) (res := .non) (T := T) (o' := .lst (ws.set j v1)) (d := .lst (xs.set j v)) r2 (st1.trans st2) ok hk g0 g2 g3 (fun _ z => nomatch z) (fun _ _ z => nomatch z) t1'.thr hT2 r.dom ?_ .non fun H' S' U' st' r' tm' => q σ H' S' r'
              refine .lst (by rw [res_in (show S2 x ad0 ∨ T ad0 from .inl g2)]; exact upd_same) ?_
              exact ((g4.mono (res_up fun b z => .inl z)).set (hv1'.mono (res_up fun b z => .inr z)) j).mono (items_upd' nta)
          · cases hd
        · cases hd
      · cases hd
    · cases hd
  · cases hd
end
end VD

set_option Elab.async false
set_option linter.all false
set_option maxRecDepth 100000
set_option maxHeartbeats 4000000
namespace MC
open PySem PySem.Spec L2
open PyProof.Rows hiding St
open AutoSeq1 (wpAny_loadPart')

section
variable {A : Around} {s : Shared}
open PySem.SeqAt
end

section
variable {X : Cx}
section
open PySem.SeqAt
variable {A : Around} {s : Shared}
end
end
end MC

set_option Elab.async false
set_option linter.all false
set_option maxRecDepth 100000
set_option maxHeartbeats 4000000
namespace MC
open PySem PySem.Spec L2
open PyProof.Rows hiding St

def SqX (H : Hp) (a : Addr) (xs : List V) : Prop := H a = some (.lst xs) ∨ H a = some (.tup xs)
theorem SqX.mono {H H' : Hp} {a : Addr} {xs : List V} (e : Same H H') (h : SqX H a xs) : SqX H' a xs := h.imp (e _ _) (e _ _)
theorem SqX.inj {H : Hp} {a : Addr} {xs ys : List V} (h : SqX H a xs) (k : SqX H a ys) : xs = ys := by
  rcases h with h | h <;> rcases k with k | k <;> rw [h] at k <;> cases k <;> rfl
def iSeq (K : PySem.W.Frag) (tl : TE) : TI := fun σ H R => tl σ H fun x H1 => ∃ a, x = .ref a ∧ (((∃ xs, H1 a = some (.lst xs)) ∧ R (Itl K a) H1) ∨ ((∃ xs, H1 a = some (.tup xs)) ∧ R (Itt K a) H1))
theorem pi_seq {X : Cx} {tg l : Expr} {tl : TE} (hl : PE X l tl) : PI X tg l (iSeq X.K tl) := by
  constructor
  intro pins s σ H R I h
  refine thn (hl.run pins s σ H _ I h) fun v s1 ⟨x, H1, I1, r1, q1⟩ => ?_
  obtain ⟨a, rfl, q⟩ := q1
  cases r1
  have kept : ∀ (o : Obj), L2.Inv X pins σ H1 { s1 with heap := s1.heap.push o } := fun o => I1.kept (t' := s1.toks) fun b u e => Heap.get?_push_of_some _ e
  have fp : ∀ b ∈ [s1.heap.objs.size], FpOk X pins H1 b := fun b hb => by
    rw [List.mem_singleton.mp hb]
    exact I1.fpOk (Nat.le_refl _) (I1.hok.fresh (Nat.le_refl _))
  rcases q with ⟨⟨xs, hq⟩, q⟩ | ⟨⟨xs, hq⟩, q⟩
  · obtain ⟨its, rv, p, hz⟩ := I1.list (SqL.of hq)
    exact wpAny_pyIter_list p.isList ⟨_, _, _, _, H1, rfl, kept _, turn_list a _, ⟨_, Heap.get?_push_size _ rfl, rfl, rfl⟩, fp, q⟩
  · obtain ⟨its, rv, p, hz⟩ := I1.tuple (SqT.of hq)
    exact wpAny_pyIter_tuple (show s1.heap.IsTuple a its.toArray from p) ⟨_, _, _, _, H1, rfl, kept _, turn_tuple a _, ⟨_, Heap.get?_push_size _ rfl, rfl, rfl⟩, fp, q⟩
end MC

set_option Elab.async false
set_option linter.all false
set_option maxRecDepth 100000
set_option maxHeartbeats 4000000
namespace VD
open PySem PySem.Spec PyProof.Rows MC
section
variable {prog : Program} {w : World} {A : Around} {E : Value → Shared → Prop} {s : Shared}
end
end VD
namespace VD
open PySem PySem.Spec L2 MC
open PyProof.Rows hiding St
end VD

set_option Elab.async false
set_option linter.all false
set_option maxRecDepth 100000
set_option maxHeartbeats 4000000
set_option exponentiation.threshold 20000
namespace VD
open PySem PySem.Spec L2 MC
open PyProof.Rows hiding St

def Nw (H : Hp) (T : Addr → Prop) (l : Addr) (o : HO) (d : D) : Prop := H l = none ∧ (∀ x u, o ≠ .frz x u) ∧ ∀ H', Same (Res T H) H' → H' l = some o → DD H' (.ref l) d
def PnL (K : PySem.W.Frag) (r : List V → Hp → VK → Prop) (p : List D → Option D) : Prop :=
  ∀ (H : Hp) (T : Addr → Prop) (vs : List V) (ds : List D) (d : D) (Q : VK), RVs K (Res T H) vs ds → p ds = some d → (∀ l o, Nw H T l o d → Q (.ref l) (upd H l o)) → r vs H Q
def Pn2 (K : PySem.W.Frag) (r : R2) (p : D → D → Option D) : Prop :=
  ∀ (H : Hp) (T : Addr → Prop) (x y : V) (dx dy d : D) (Q : VK), RV K (Res T H) x dx → RV K (Res T H) y dy → p dx dy = some d → (∀ l o, Nw H T l o d → Q (.ref l) (upd H l o)) → r x y H Q
theorem Nw.gr {K : PySem.W.Frag} {H : Hp} {T : Addr → Prop} {l : Addr} {o : HO} {d : D} (n : Nw H T l o d) : Gr K H T (upd H l o) (fun b => T b ∨ b = l) (.ref l) d := gr_new n.1 n.2.1 n.2.2
theorem PnL.pg {K : PySem.W.Frag} {r : List V → Hp → VK → Prop} {p : List D → Option D} (h : PnL K r p) : PgL K r p := fun H T vs ds d Q a b q => h H T vs ds d Q a b fun l o n => q _ _ _ n.gr
theorem Pn2.pg {K : PySem.W.Frag} {r : R2} {p : D → D → Option D} (h : Pn2 K r p) : Pg2 K r p := fun H T x y dx dy d Q a b c q => h H T x y dx dy d Q a b c fun l o n => q _ _ _ n.gr
def flatk : List (Key × D) → Bool
  | [] => true
  | (_, d) :: r => d.flat && flatk r
def D.flatIn : D → Bool
  | .lst xs => flats xs
  | .tup xs => flats xs
  | .dct kvs => flatk kvs
  | _ => false
def dFe (den : Ev → Option (D × Ev)) : Ev → Option (D × Ev) := fun e => match den e with | some (d, e') => if d.flatIn then some (d, e') else none | none => none
theorem DKs.imm {H : Hp} : ∀ {ds : List (Key × D)} {vs : List (Key × V)}, DKs H vs ds → flatk ds = true → DKs (Res (Imm H) H) vs ds
  | [], _, h, _ => by cases h; exact .nil
  | (k, d) :: ds, _, h, f => by
    cases h with
    | cons h hs =>
      simp only [flatk, Bool.and_eq_true] at f
      exact .cons (DD.imm h f.1) (DKs.imm hs f.2)
theorem Nw.flat {K : PySem.W.Frag} {F : Fx} {R : Rl} {PH : List Ph} {Hs H : Hp} {σ : St} {e : Ev} {S : FPs} {T : Addr → Prop} {l : Addr} {o : HO} {d : D} (n : Nw H T l o d) (r : Rp K F R PH H σ e S) (hs : ∀ b, Hs b ≠ none → H b ≠ none) (hT : ∀ b, T b → H b ≠ none) (f : d.flatIn = true) :
    Tm K Hs (upd H l o) S [] (.ref l) d (fun b => (T b ∧ Imm H b) ∨ b = l) := by
  obtain ⟨nl, nf, nd⟩ := n
  have sm : Same H (upd H l o) := same_new' nl o
  have hd := nd (Res (fun b => T b ∨ b = l) (upd H l o)) (res_mono fun b u tb eb => ⟨.inl tb, by rw [upd_ne (ne_of_none eb nl)]; exact eb⟩) (by rw [res_in (show T l ∨ l = l from .inr rfl)]; exact upd_same)
  have up : Same (Res (Imm (Res (fun b => T b ∨ b = l) (upd H l o))) (Res (fun b => T b ∨ b = l) (upd H l o))) (Res (fun b => (T b ∧ Imm H b) ∨ b = l) (upd H l o)) := fun b u q => by
    obtain ⟨⟨xs, i⟩, q⟩ := res_some q
    obtain ⟨t, q'⟩ := res_some q
    by_cases hb : b = l
    · rw [res_in (show (T b ∧ Imm H b) ∨ b = l from .inr hb)]; exact q'
    · have i' := (res_some i).2
      rw [upd_ne hb] at i'
      rw [res_in (show (T b ∧ Imm H b) ∨ b = l from .inl ⟨t.resolve_right hb, xs, i'⟩)]; exact q'
  have top : ∀ {u}, Res (fun b => T b ∨ b = l) (upd H l o) l = some u → Res (fun b => (T b ∧ Imm H b) ∨ b = l) (upd H l o) l = some u := fun {u} q => by
    rw [res_in (show (T l ∧ Imm H l) ∨ l = l from .inr rfl)]; exact (res_some q).2
  refine ⟨.inr ?_, fun b tb => ?_, fun b tb => ?_⟩
  · cases hd with
    | lst h1 h2 => exact .lst (top h1) ((DDs.imm h2 (by simpa [D.flatIn] using f)).mono up)
    | tup h1 h2 => exact .tup (top h1) ((DDs.imm h2 (by simpa [D.flatIn] using f)).mono up)
    | dct h1 h2 => exact .dct (h1.imp top fun ⟨o', q⟩ => ⟨o', top q⟩) ((DKs.imm h2 (by simpa [D.flatIn] using f)).mono up)
    | _ => simp [D.flatIn] at f
  · rcases tb with tb | tb
    · exact same_thr sm b (hT b tb.1)
    · rw [tb, upd_same]; exact fun z => nomatch z
  · rcases tb with tb | tb
    · exact .inl (tb.2.imp fun xs q => sm _ _ q)
    · subst tb
      refine .inr (.inr ⟨?_, fun k z => r.thr k b z nl, fun x u z => by rw [upd_same] at z; exact nf x u (Option.some.inj z)⟩)
      cases eb : Hs b with
      | none => rfl
      | some o' => exact absurd nl (hs b (by rw [eb]; exact fun z => nomatch z))
section
variable {K : PySem.W.Frag} {F : Fx} {R : Rl} {NM : List Nat} {da db : Ev → Option (D × Ev)} {ds : Ev → Option (List D × Ev)} {A A1 A2 M M1 M2 : List Nat} {As : List (List Nat)}
theorem se_n2 {ta tb : TE} {r : R2} {p : D → D → Option D} (hp : Pn2 K r p) (h1 : SE K F R NM ta da A1 M1) (h2 : SE K F R NM tb db A2 M2) (c : clear R A1 M2 = true) : SE K F R NM (tOp r ta tb) (dFe (d2 p da db)) [] (M1 ++ M2) := by
  intro PH hP σ H e S Q d e' rr hd q
  unfold dFe d2 at hd
  split at hd
  · rename_i dd ee hq
    split at hd
    · rename_i hfl
      cases hd
      split at hq
      · rename_i x e1 hx
        split at hq
        · rename_i y e2 hy
          split at hq
          · rename_i z hz
            cases hq
            refine h1 PH hP σ H e S _ _ _ rr hx fun v H1 S1 T st1 r1 tm1 => ?_
            refine h2 PH hP σ H1 _ S1 _ _ _ r1 hy fun u H2 S2 U st2 r2 tm2 => ?_
            have t1 := tm1.step r1 st2 c
            refine hp H2 (fun b => T b ∨ U b) v u _ _ _ _ (t1.rv.mono (res_up fun b q => .inl q)) (tm2.rv.mono (res_up fun b q => .inr q)) hz fun l o n => q _ _ S2 _ ?_ (r2.same (same_new' n.1 o)) (n.flat r2 (st1.trans st2).thr (fun b tb => tb.elim (t1.thr b) (tm2.thr b)) hfl)
            have := (st1.trans st2).trans (Stp.of_same (S := S2) (same_new' n.1 o))
            rw [List.append_nil] at this; exact this
          · cases hq
        · cases hq
      · cases hq
    · cases hd
  · cases hd
theorem se_nL {t : TA} {r : List V → Hp → VK → Prop} {p : List D → Option D} (hp : PnL K r p) (h : SA K F R NM t ds As M) : SE K F R NM (tCB r t) (dFe (dL p ds)) [] M := by
  intro PH hP σ H e S Q d e' rr hd q
  unfold dFe dL at hd
  split at hd
  · rename_i dd ee hq
    split at hd
    · rename_i hfl
      cases hd
      split at hq
      · rename_i xs e1 hx
        split at hq
        · rename_i z hz
          cases hq
          refine h PH hP σ H e S _ _ _ rr hx fun vs H1 S1 Ts st1 r1 tm1 => ?_
          obtain ⟨k1, k2, k3⟩ := tm1.all
          refine hp H1 (allT Ts) vs _ _ _ k1 hz fun l o n => q _ _ S1 _ ?_ (r1.same (same_new' n.1 o)) (n.flat r1 st1.thr k2 hfl)
          have := st1.trans (Stp.of_same (S := S1) (same_new' n.1 o))
          rw [List.append_nil] at this; exact this
        · cases hq
      · cases hq
    · cases hd
  · cases hd
end
section
variable {X : Cx} {F : Fx} {R : Rl} {NM : List Nat} {a b : Expr} {es : List Expr} {pos p2 : Pos} {da db : Ev → Option (D × Ev)} {ds : Ev → Option (List D × Ev)} {A A1 A2 A3 M M1 M2 M3 : List Nat} {As : List (List Nat)}
theorem ve_op_n {op : Operator} {r : R2} {p : D → D → Option D} (ho : OpR X (binaryOp op) r) (hp : Pn2 X.K r p) (h1 : VE X F R NM a da A1 M1) (h2 : VE X F R NM b db A2 M2) (c : clear R A1 M2 = true := by rfl) : VE X F R NM (.BinOp a op b pos) (dFe (d2 p da db)) [] (M1 ++ M2) := by
  obtain ⟨t1, p1, s1⟩ := h1.ex
  obtain ⟨t2, p2, s2⟩ := h2.ex
  exact ⟨_, pe_op ho p1 p2, se_n2 hp s1 s2 c⟩
theorem ve_callB_n {x : Str} {id : String} {p : Pos} {r : List V → Hp → VK → Prop} {pr : List D → Option D} (hc : CallR X (.builtin id) r) (hp : PnL X.K r pr) (hg : Gl X x) (hm : X.mg x = none) (hv : bootBuiltins x = some (.builtin id)) (ha : VA X F R NM (a :: es) ds As M) (hn : x ≠ "__name__" := by decide) (hdb : (x == ("__debug__" : Str)) = false := by decide)
    (he : starEach (a :: es) X.env = (false, eval a X.env) :: starEach es X.env := by rfl) (hpl : (backTo pos (starEach es X.env)).any (·.1) = false := by rfl) : VE X F R NM (.Call (.Name x p) (a :: es) [] pos) (dFe (dL pr ds)) [] M := by
  obtain ⟨t, q, s⟩ := ha.ex
  exact ⟨_, pe_callB hc hg hm hv q hn hdb he hpl, se_nL hp s⟩
def SP (K : PySem.W.Frag) (F : Fx) (R : Rl) (NM : List Nat) (t : TO) (den : Ev → Option (Option Int × Ev)) (M : List Nat) : Prop :=
  ∀ (PH : List Ph), PH.map (·.ix) = NM → ∀ (σ : St) (H : Hp) (e : Ev) (S : FPs) (Q : Option Int → Hp → Prop) (o : Option Int) (e' : Ev), Rp K F R PH H σ e S → den e = some (o, e') →
    (∀ H' S', Stp M H S H' S' → Rp K F R PH H' σ e' S' → Q o H') → t σ H Q
structure VP (X : Cx) (F : Fx) (R : Rl) (NM : List Nat) (ex : Option Expr) (den : Ev → Option (Option Int × Ev)) (M : List Nat) : Prop where
  ex : ∃ t, PO X ex t ∧ SP X.K F R NM t den M
def oNo : Ev → Option (Option Int × Ev) := fun e => some (none, e)
def oSo (da : Ev → Option (D × Ev)) : Ev → Option (Option Int × Ev) := fun e => match da e with | some (.int i, e') => some (some i, e') | _ => none
theorem vp_no : VP X F R NM none oNo [] := ⟨_, po_none, fun PH hP σ H e S Q o e' r hd q => by cases hd; exact q H S Stp.refl r⟩
theorem vp_so (h : VE X F R NM a da A M) : VP X F R NM (some a) (oSo da) M := by
  obtain ⟨t, p, s⟩ := h.ex
  refine ⟨_, po_some p, fun PH hP σ H e S Q o e' r hd q => ?_⟩
  unfold oSo at hd
  split at hd
  · rename_i i e1 hx
    cases hd
    exact s PH hP σ H e S _ _ _ r hx fun v H' S' T st r' tm => ⟨i, tm.rv.int, q H' S' st r'⟩
  · cases hd
def dSl (p : D → Option Int → Option Int → Option D) (da : Ev → Option (D × Ev)) (dl dh : Ev → Option (Option Int × Ev)) : Ev → Option (D × Ev) := fun e => match da e with
  | some (x, e1) => match dl e1 with
    | some (l, e2) => match dh e2 with
      | some (h, e3) => match p x l h with | some z => some (z, e3) | none => none
      | none => none
    | none => none
  | none => none
def PnS (K : PySem.W.Frag) (r : V → Option Int → Option Int → Hp → VK → Prop) (p : D → Option Int → Option Int → Option D) : Prop :=
  ∀ (H : Hp) (T : Addr → Prop) (x : V) (dx : D) (l h : Option Int) (d : D) (Q : VK), RV K (Res T H) x dx → p dx l h = some d → (∀ l o, Nw H T l o d → Q (.ref l) (upd H l o)) → r x l h H Q
def PgS (K : PySem.W.Frag) (r : V → Option Int → Option Int → Hp → VK → Prop) (p : D → Option Int → Option Int → Option D) : Prop :=
  ∀ (H : Hp) (T : Addr → Prop) (x : V) (dx : D) (l h : Option Int) (d : D) (Q : VK), RV K (Res T H) x dx → p dx l h = some d → (∀ v H' T', Gr K H T H' T' v d → Q v H') → r x l h H Q
theorem PnS.pg {K : PySem.W.Frag} {r : V → Option Int → Option Int → Hp → VK → Prop} {p : D → Option Int → Option Int → Option D} (h : PnS K r p) : PgS K r p := fun H T x dx l u d Q a b q => h H T x dx l u d Q a b fun l o n => q _ _ _ n.gr
variable {lo hi : Option Expr} {dl dh : Ev → Option (Option Int × Ev)} {r : V → Option Int → Option Int → Hp → VK → Prop} {p : D → Option Int → Option Int → Option D}
theorem ve_sl_n (hr : SlR X r) (hp : PnS X.K r p) (h : VE X F R NM a da A M1) (hl : VP X F R NM lo dl M2) (hh : VP X F R NM hi dh M3) (c2 : clear R A M2 = true := by rfl) (c3 : clear R A M3 = true := by rfl) : VE X F R NM (.Subscript a (.Slice lo hi none p2) pos) (dFe (dSl p da dl dh)) [] (M1 ++ M2 ++ M3) := by
  obtain ⟨t, q, s⟩ := h.ex
  obtain ⟨tl, ql, sl⟩ := hl.ex
  obtain ⟨th, qh, sh⟩ := hh.ex
  refine ⟨_, pe_slice hr q ql qh, fun PH hP σ H e S Q d e' rr hd q => ?_⟩
  unfold dFe dSl at hd
  split at hd
  · rename_i dd ee hq
    split at hd
    · rename_i hfl
      cases hd
      split at hq
      · rename_i x e1 hx
        split at hq
        · rename_i l e2 hl
          split at hq
          · rename_i u e3 hu
            split at hq
            · rename_i z hz
              cases hq
              refine s PH hP σ H e S _ _ _ rr hx fun v H1 S1 T st1 r1 tm1 => ?_
              refine sl PH hP σ H1 e1 S1 _ _ _ r1 hl fun H2 S2 st2 r2 => ?_
              refine sh PH hP σ H2 e2 S2 _ _ _ r2 hu fun H3 S3 st3 r3 => ?_
              have t3 := (tm1.step r1 st2 c2).step r2 st3 c3
              refine hp H3 T v _ _ _ _ _ t3.rv hz fun l o n => q _ _ S3 _ ?_ (r3.same (same_new' n.1 o)) (n.flat r3 ((st1.trans st2).trans st3).thr t3.thr hfl)
              have := ((st1.trans st2).trans st3).trans (Stp.of_same (S := S3) (same_new' n.1 o))
              rw [List.append_nil] at this; exact this
            · cases hq
          · cases hq
        · cases hq
      · cases hq
    · cases hd
  · cases hd
end
def cutD {α : Type} (xs : List α) (lo hi : Option Int) : List α := (xs.drop (HT.sIx xs.length 0 lo)).take (HT.sIx xs.length xs.length hi - HT.sIx xs.length 0 lo)
section
variable {K : PySem.W.Frag}
theorem DDs.cut {H : Hp} {vs : List V} {ds : List D} (h : DDs H vs ds) (lo hi : Option Int) : DDs H (cutV vs lo hi) (cutD ds lo hi) := by
  unfold cutV cutD
  rw [h.length]
  exact (h.drop _).take _
def pSlL : D → Option Int → Option Int → Option D := fun x l h => match x with
  | .lst xs => some (.lst (cutD xs l h))
  | .ro ns => some (.lst ((cutD ns l h).map D.int))
  | _ => none
theorem cutD_map {α β : Type} (f : α → β) (xs : List α) (l h : Option Int) : cutD (xs.map f) l h = (cutD xs l h).map f := by
  unfold cutD
  rw [List.length_map, List.map_take, List.map_drop]
theorem pn_slL : PnS K (rSlL K) pSlL := by
  intro H T x dx l h d Q hx hp q
  unfold pSlL at hp
  split at hp
  · cases hp
    have hx := hx.dd rfl
    cases hx with
    | @lst a xs _ h1 h2 => exact ⟨a, xs, rfl, SqL.of (res_some h1).2, fun p hp => q p _ ⟨hp, (fun _ _ z => nomatch z), fun H' sm hp' => .lst hp' ((h2.cut l h).mono sm)⟩⟩
  · rename_i ns
    cases hp
    rcases hx with ⟨a, ns', e, rfl, h1⟩ | hx
    · cases e
      refine ⟨a, _, rfl, SqL.up res_same h1, fun p hp => q p _ ⟨hp, (fun _ _ z => nomatch z), fun H' sm hp' => .lst hp' ?_⟩⟩
      have := (dds_ints (H := H') ns).cut l h
      rw [cutD_map] at this; exact this
    · cases hx
  · cases hp
end

section
variable {X : Cx} {F : Fx} {R : Rl} {NM : List Nat} {a : Expr} {k : Nat} {p1 p2 p3 pos : Pos} {da : Ev → Option (D × Ev)} {A M : List Nat}
end

section
variable {K : PySem.W.Frag}
theorem pn_cat : Pn2 K rCat pCat := by
  intro H T x y dx dy d Q hx hy hp q
  unfold pCat at hp
  split at hp
  · split at hp
    · rename_i hl
      cases hp
      have hx := hx.dd rfl
      have hy := hy.dd rfl
      cases hx with
      | @lst a xs _ h1 h2 =>
        cases hy with
        | @lst b ys _ h3 h4 => exact ⟨a, b, xs, ys, rfl, rfl, (res_some h1).2, (res_some h3).2, by rw [h2.length, h4.length]; exact hl, fun p hp => q p _ ⟨hp, (fun _ _ z => nomatch z), fun H' sm hp' => .lst hp' ((h2.append h4).mono sm)⟩⟩
    · cases hp
  · cases hp
theorem pn_rep : Pn2 K rRep pRep := by
  intro H T x y dx dy d Q hx hy hp q
  unfold pRep at hp
  split at hp
  · split at hp
    · rename_i hl
      simp only [Bool.and_eq_true, decide_eq_true_eq] at hl
      cases hp
      have hx := hx.dd rfl
      rw [hy.int]
      cases hx with
      | @lst a xs _ h1 h2 => exact ⟨a, _, xs, rfl, rfl, (res_some h1).2, hl.1.1, hl.1.2, by rw [h2.length]; exact hl.2, fun p hp => q p _ ⟨hp, (fun _ _ z => nomatch z), fun H' sm hp' => .lst hp' ((h2.rep _).mono sm)⟩⟩
    · cases hp
  · cases hp
def intsOf : List D → Option (List Int)
  | [] => some []
  | .int i :: r => (intsOf r).map (i :: ·)
  | _ :: _ => none
def strsOf : List D → Option (List Str)
  | [] => some []
  | .str i :: r => (strsOf r).map (i :: ·)
  | _ :: _ => none
theorem intsOf_eq : ∀ {ds : List D} {ns : List Int}, intsOf ds = some ns → ds = ns.map D.int
  | [], ns, h => by cases h; rfl
  | d :: ds, ns, h => by
    cases d with
    | int i =>
      obtain ⟨ms, h1, rfl⟩ := Option.map_eq_some_iff.mp (show (intsOf ds).map (i :: ·) = some ns from h)
      rw [intsOf_eq h1]; rfl
    | _ => simp [intsOf] at h
theorem intsOf_map (ns : List Int) : intsOf (ns.map D.int) = some ns := by
  induction ns with
  | nil => rfl
  | cons n ns ih => rw [List.map_cons, intsOf, ih]; rfl
theorem strsOf_eq : ∀ {ds : List D} {ns : List Str}, strsOf ds = some ns → ds = ns.map D.str
  | [], ns, h => by cases h; rfl
  | d :: ds, ns, h => by
    cases d with
    | str i =>
      obtain ⟨ms, h1, rfl⟩ := Option.map_eq_some_iff.mp (show (strsOf ds).map (i :: ·) = some ns from h)
      rw [strsOf_eq h1]; rfl
    | _ => simp [strsOf] at h
theorem strsOf_map (ns : List Str) : strsOf (ns.map D.str) = some ns := by
  induction ns with
  | nil => rfl
  | cons n ns ih => rw [List.map_cons, strsOf, ih]; rfl
theorem DDs.ints {H : Hp} : ∀ {ns : List Int} {vs : List V}, DDs H vs (ns.map D.int) → vs = ns.map V.int
  | [], _, h => by cases h; rfl
  | n :: ns, _, h => by
    cases h with
    | cons h hs => cases h; rw [DDs.ints hs]; rfl
theorem DDs.strs {H : Hp} : ∀ {ns : List Str} {vs : List V}, DDs H vs (ns.map D.str) → vs = ns.map V.str
  | [], _, h => by cases h; rfl
  | n :: ns, _, h => by
    cases h with
    | cons h hs => cases h; rw [DDs.strs hs]; rfl
def listInts : D → Option (List Int)
  | .lst xs => intsOf xs
  | .ro ns => some ns
  | _ => none
theorem RV.ints {H : Hp} {v : V} {d : D} {ns : List Int} (h : RV K H v d) (e : listInts d = some ns) : ∃ a, v = .ref a ∧ SqL K H a (ns.map V.int) := by
  unfold listInts at e
  split at e
  · have e := intsOf_eq e
    subst e
    have h := h.dd rfl
    cases h with
    | lst h1 h2 => exact ⟨_, rfl, SqL.of (by rw [h1, h2.ints])⟩
  · cases e
    rcases h with ⟨a, ns', e, rfl, h1⟩ | h
    · cases e; exact ⟨a, rfl, h1⟩
    · cases h
  · cases e
def sortI (ns : List Int) : List Int := ns.mergeSort fun a b => decide (a ≤ b)
theorem sortI_uniq {ns ms : List Int} (p : ms.Perm ns) (s : ms.Pairwise (· ≤ ·)) : ms = sortI ns := by
  refine List.Perm.eq_of_pairwise (le := fun a b => a ≤ b) (fun a b _ _ h1 h2 => Int.le_antisymm h1 h2) s ?_ (p.trans (List.mergeSort_perm ns _).symm)
  have := List.pairwise_mergeSort (le := fun a b : Int => decide (a ≤ b)) (fun a b c h1 h2 => by simp at *; omega) (fun a b => by simp; omega) ns
  exact this.imp fun h => by simpa using h
def pSorted : List D → Option D := fun ds => match ds with
  | [d] => (listInts d).map fun ns => .lst ((sortI ns).map D.int)
  | _ => none
theorem pn_sorted : PnL K (rSortedI K) pSorted := by
  intro H T vs ds d Q h hp q
  unfold pSorted at hp
  split at hp
  · obtain ⟨ns, h1, rfl⟩ := Option.map_eq_some_iff.mp hp
    obtain ⟨v, rfl, hv⟩ := h.one
    obtain ⟨a, rfl, ha⟩ := hv.ints h1
    refine ⟨a, ns, rfl, SqL.up res_same ha, fun ms p pm st hp => ?_⟩
    rw [sortI_uniq pm st]
    exact q p _ ⟨hp, (fun _ _ z => nomatch z), fun H' sm hp' => .lst hp' (dds_ints _)⟩
  · cases hp
def pSum : List D → Option D := fun ds => match ds with
  | [d] => (listInts d).map fun ns => .int ns.sum
  | _ => none
theorem ps_sum : PsL K (rSum K) pSum := by
  intro H vs ds d Q h hp q
  unfold pSum at hp
  split at hp
  · obtain ⟨ns, h1, rfl⟩ := Option.map_eq_some_iff.mp hp
    obtain ⟨v, rfl, hv⟩ := h.one
    obtain ⟨a, rfl, ha⟩ := hv.ints h1
    exact ⟨a, ns, rfl, ha, q _ (.int _)⟩
  · cases hp
end
end VD

set_option Elab.async false
set_option linter.all false
set_option maxRecDepth 100000
set_option maxHeartbeats 4000000
namespace VD
open PySem PySem.Spec PyProof.Rows L2 MC
def tMinVD (td : TE) : TE := fun σ H Q => td σ H fun x H1 => ∃ a kvs is, x = V.ref a ∧ Rd H1 a (.dK kvs) ∧ kvs.map (·.2) = is.map V.int ∧ (is = [] → Q (.int 0) H1) ∧ (is ≠ [] → ∀ m, m ∈ is → (∀ j ∈ is, m ≤ j) → Q (.int m) H1)
section
variable {X : Cx} {o : Expr} {k0 : Nat} {p pos apos mpos kpos cp : Pos} {td : TE}
theorem pe_minVD (hc : X.calm = true) (hg : Gl X "min") (hm : X.mg "min" = none) (hd : PE X o td) (hbase : attributeBase o "values" X.env (eval o X.env) = eval o X.env := by rfl) (hline : (apos.endLine == mpos.line) = true := by rfl)
    (he : backTo pos (starEach [Expr.Call (.Attribute o "values" apos) [] [] mpos] X.env) = (false, eval (Expr.Call (.Attribute o "values" apos) [] [] mpos) X.env) :: backTo pos (starEach [] X.env) := by rfl) (hpl : (backTo pos (starEach [Expr.Call (.Attribute o "values" apos) [] [] mpos] X.env)).any (·.1) = false := by rfl)
    (hall : (backToKw pos (keywordEach [⟨some "default", .Constant (.int 0) k0 cp, kpos⟩] X.env)).all (·.1.isSome) = true := by rfl) (hnone : (backToKw pos (keywordEach [⟨some "default", .Constant (.int 0) k0 cp, kpos⟩] X.env)).any (·.1.isNone) = false := by rfl) (hks : (backToKw pos (keywordEach [⟨some "default", .Constant (.int 0) k0 cp, kpos⟩] X.env)).filterMap (·.1) = [Str.ofString "default"] := by rfl) :
    PE X (.Call (.Name "min" p) [.Call (.Attribute o "values" apos) [] [] mpos] [⟨some "default", .Constant (.int 0) k0 cp, kpos⟩] pos) (tMinVD td) := by
  constructor; intro pins s σ H Q I h
  refine wpAny_Call_Name_kw (ld_blt I hg hm (u := .builtin "min") (by first | rfl | decide +kernel) ?_ (by first | decide | decide +kernel) (by first | decide | decide +kernel))
  refine PyProof.Rows.callWith_kw ?_ he hpl hall hnone
  rw [he, hks]
  refine Calls.spliced_cons (wpAny_Call_method0_late hbase hline (thn (hd.run pins s σ H _ I h) fun v s1 ⟨x, H1, I1, rA, a, kvs, is, ex, ha, hv, q0, q1⟩ => ?_))
  subst ex
  obtain rfl : v = Value.ref a := rA
  obtain ⟨_, noSys, vs, rl, isDf⟩ := dk_rd I1.hok ha
  obtain ⟨epo, dat⟩ := isDf.dictAt
  have dat2 := dat
  obtain ⟨obj, ents, ho, ex, obD, obK, obP, obN⟩ := dat2
  refine ⟨"dict", "dict.values", F.plainAttrs_dict, F.slot_dict_values, F.type_dict_values, ⟨obj, ho, ex.1⟩, fun b e => by cases e; exact ⟨obj, ho, ex.2.1⟩, Calls.callWith_builtin rfl (PySem.evalArgs_none ?_)⟩
  refine call_meetsIn F.slot_dict_values ⟨obj, ho, ex.1⟩ F.entry_dict_values (F.args_dict_values_1 _) (meets_dict_values (mixKind X.prog X.w) a noSys) ⟨⟨vs, isDf⟩, ?_⟩
  have kp : ∀ b u, s1.heap.get? b = some u → (s1.heap.push { cls := .type "dict_values", data := .fields #[.ref a] }).get? b = some u := fun b u e => Heap.get?_push_of_some _ e
  have dat1 := dat.keep kp
  have I2 : Inv X pins σ H1 { s1 with heap := s1.heap.push { cls := .type "dict_values", data := .fields #[.ref a] } } := I1.kept (t' := s1.toks) kp
  refine Calls.spliced_nil ?_
  show wpAny _ _ (evalAll [(do let v ← eval (.Constant (.int 0) k0 cp) X.env; standAt pos; pure v)]) _ _ _
  refine wpAny_evalAll_cons (wpAny_bind (wpAny_Constant_int (wpAny_bind (wpAny_standAt (wpAny_pure (wpAny_evalAll_nil ?_))))))
  have lenV : vs.length = is.length := by
    have w1 := congrArg List.length hv
    rw [List.length_map, List.length_map] at w1
    rw [← w1]; exact (KV.length rl).symm
  have isNum : ∀ (i : Nat) (v : Value), (∃ k, vs[i]? = some (k, v)) → ∃ t, v = Value.int (is.getD i 0) t := by
    rintro i v ⟨k, hk⟩
    obtain ⟨x, g1, g2⟩ := KV.at' rl hk
    have w1 : (kvs.map (·.2))[i]? = some x := by rw [List.getElem?_map, g1]; rfl
    rw [hv, List.getElem?_map] at w1
    obtain ⟨j, hj, w2⟩ := Option.map_eq_some_iff.mp w1
    subst w2
    obtain ⟨t, w3⟩ := g2
    exact ⟨t, by rw [w3, List.getD_eq_getElem?_getD, hj]; rfl⟩
  have aLow : a < s1.heap.objs.size := Heap.lt_size ho
  have sizeP : (s1.heap.push { cls := .type "dict_values", data := .fields #[.ref a] }).objs.size = s1.heap.objs.size + 1 := Heap.size_push _ _
  refine call_min_walkD (wpAny_pyIter_values (v := s1.heap.objs.size) (d := a) ⟨_, Heap.get?_push_size _ rfl, rfl, rfl⟩ dat1 ?_)
  refine ⟨_, _, _, _, _, _, _, s1.heap.push { cls := .type "dict_values", data := .fields #[.ref a] }, (fun i j => decide (is.getD i 0 < is.getD j 0)), rfl,
    (Walks.dictValues (knd := mixKind X.prog X.w) (A := X.A.in1) (I.ok.hd hc) (s1.heap.push { cls := .type "dict_values", data := .fields #[.ref a] }).objs.size a (by rw [sizeP]; exact Nat.ne_of_lt (Nat.lt_succ_of_lt aLow)) vs epo).toS,
    ⟨⟨_, Heap.get?_push_size _ rfl, rfl, rfl⟩, dat1.keep fun b u e => Heap.get?_push_of_some _ e⟩, fun b bIn => ?_, fun b u e bIn => ?_, fun b u e => Heap.get?_push_of_some _ e, fun hz s' m => ?_, fun hp => ⟨fun i j vi vj s2 Q2 E2 _ hi hj q => (CmpOf.ints_lt (fun i => is.getD i 0) isNum) i j vi vj s2 Q2 E2 hi hj q, fun v s' hP m => ?_⟩⟩
  · show b < ((s1.heap.push _).push _).objs.size
    rw [Heap.size_push, Heap.size_push]
    rw [sizeP] at bIn
    simp only [List.mem_cons, List.not_mem_nil, or_false] at bIn
    rcases bIn with e | e
    · rw [e]; exact Nat.lt_succ_self _
    · rw [e]; exact Nat.lt_succ_of_lt (Nat.lt_succ_of_lt aLow)
  · have w1 := List.mem_singleton.mp bIn
    have w2 := Heap.lt_size e
    rw [w1] at w2; exact Nat.lt_irrefl _ w2
  · obtain ⟨h', tk, rfl, hk'⟩ := PySem.W.moved_old (s := { s1 with heap := s1.heap.push { cls := .type "dict_values", data := .fields #[.ref a] }, toks := s1.toks + 1 }) (o := { cls := .type "dict_valueiterator", data := .fields #[.ref a, .int 0 0, .int (vs.length : Nat) 0, .int (epo : Nat) 0] }) rfl rfl m
    have e0 : is = [] := List.eq_nil_of_length_eq_zero (by omega)
    exact ⟨.int 0, H1, I1.kept (t' := tk) (fun b u e => hk' b u (kp b u e)), ⟨_, rfl⟩, q0 e0⟩
  · obtain ⟨h', tk, rfl, hk'⟩ := PySem.W.moved_old (s := { s1 with heap := s1.heap.push { cls := .type "dict_values", data := .fields #[.ref a] }, toks := s1.toks + 1 }) (o := { cls := .type "dict_valueiterator", data := .fields #[.ref a, .int 0 0, .int (vs.length : Nat) 0, .int (epo : Nat) 0] }) rfl rfl m
    obtain ⟨t, rfl⟩ := isNum _ v hP
    obtain ⟨b1, b2⟩ := argBest_lt (fun i => is.getD i 0) (vs.length - 1)
    have ne : is ≠ [] := fun z => absurd hp (by rw [lenV, z]; exact Nat.lt_irrefl 0)
    refine ⟨.int _, H1, I1.kept (t' := tk) (fun b u e => hk' b u (kp b u e)), ⟨t, rfl⟩, q1 ne _ ?_ fun j hj => ?_⟩
    · have bIn : argBest (fun i j => decide (is.getD i 0 < is.getD j 0)) (vs.length - 1) < is.length := by omega
      rw [List.getD_eq_getElem?_getD, List.getElem?_eq_getElem bIn]; exact List.getElem_mem bIn
    · obtain ⟨i, hi, e⟩ := List.mem_iff_getElem.mp hj
      have w2 : is.getD i 0 = j := by rw [List.getD_eq_getElem?_getD, List.getElem?_eq_getElem hi, ← e]; rfl
      rw [← w2]; exact b2 i (by omega)
end
end VD

set_option Elab.async false
set_option linter.all false
set_option maxRecDepth 100000
set_option maxHeartbeats 4000000
namespace VD
open PySem PySem.Spec PyProof.Rows L2 MC
open Sem (wp)
theorem nolenK : typeLookup (.type "dict_keyiterator") "__len__" = pure none := by rw [typeLookup_type, builtinLookup_eq_fast]; kernel_rfl
theorem hintK : typeLookup (.type "dict_keyiterator") "__length_hint__" = pure (some (.builtin "dict_keyiterator.__length_hint__")) := by rw [typeLookup_type, builtinLookup_eq_fast]; kernel_rfl
section
variable {pg : Program} {wd : World} {R : Around} {Er : Value → Shared → Prop} {s : Shared} {J : Addr} {fp wr : List Addr} {G : Array GenState → Array GenState → Prop} {n : Nat} {P : Nat → Value → Prop} {St : Nat → Shared → Prop}
theorem collectK {Z : List Value → Shared → Prop} (W : WalksS pg wd R.in1 J fp wr G n P St) (hT : ∀ i s, St i s → s.TypeIs (.ref J) "dict_keyiterator") (st0 : St 0 s) (hfp : ∀ b ∈ fp, b < s.heap.objs.size) (hJ : J ∈ fp)
    (hZ : ∀ s' acc, Moved wr G s s' → ItemsOf P acc n → Z acc.toList s') (hn : n ≤ sizeLine) : wpAny (model pg wd) R (collect (.ref J)) Z Er s := by
  have f1 : s.heap.objs.size ∉ fp := fun hm => Nat.lt_irrefl _ (hfp _ hm)
  have f2 : s.heap.objs.size ≠ J := fun e => f1 (e ▸ hJ)
  unfold collect; refine wpAny_bind (wpAny_runValue (codeAny_builtin F.entry_proto_collect ?_))
  rw [Around.under_plainId F.plain_proto_collect _]; show wpAny _ R.in1 (newList [] >>= fun l => again (.builtin "list.__iadd__" ⟨[l, .ref J], []⟩)) _ _ s
  refine wpAny_bind (wpAny_newObj_type ?_); refine wpAny_pure ⟨plainId_quiet F.plain_list_iadd _, codeAny_builtin F.entry_list_iadd ?_⟩
  rw [Around.under_plainId F.plain_list_iadd _]; have st1 := W.frame 0 s (s.heap.push { cls := .type "list", data := .seq ([] : List Value).toArray }) s.toks st0 (Nat.le_refl _) fun b _ o e => Heap.get?_push_of_some _ e
  have a1 : (s.heap.push { cls := .type "list", data := .seq ([] : List Value).toArray }).get? s.heap.objs.size = some { cls := .type "list", data := .seq ([] : List Value).toArray } := Heap.get?_push_size _ rfl
  have f3 : Builtin.List.listSameRef (.ref s.heap.objs.size) (.ref J) = false := by simp [Builtin.List.listSameRef, f2]
  show wpAny _ R.in1 (Builtin.List.listExtendWith (.ref s.heap.objs.size) (.ref J) (.ref s.heap.objs.size)) _ _ _
  unfold Builtin.List.listExtendWith; refine wpAny_bind (wpAny_typeOf (hT 0 _ st1) ?_)
  rw [if_neg (by rw [f3]; decide)]; refine wpAny_bind (W.self 0 _ _ _ st1 ?_)
  refine wpAny_bind (wpAny_holding ?_); unfold Builtin.List.listLengthHint
  refine wpAny_bind (wpAny_specialOf (hT 0 _ st1) nolenK ?_); show wpAny _ R.in1 (specialOf (Value.ref J) (Str.ofString "__length_hint__") >>= _) _ _ _
  refine wpAny_bind (wpAny_specialOf (hT 0 _ st1) hintK ?_)
  generalize hid : ("dict_keyiterator.__length_hint__" : String) = id0
  wp_delta
  rw [show splitId id0 = some ("dict_keyiterator", "__length_hint__") from by subst hid; decide +kernel]; subst hid
  refine wpAny_bind (wpAny_isInstance (b := true) (hT 0 _ st1) (by rw [isSubtype_type]; kernel_rfl) ?_); refine wpAny_pure ?_
  rw [if_neg (by decide)]; refine wpAny_pure ⟨plainId_quiet F.plain_extend_loop _, codeAny_extend_loopS W hn _ f1 _ n 0 _ _ _ rfl (Nat.zero_le _) st1 a1 (ItemsOf.nil P) fun s' acc' c' hm hS' hacc => ?_⟩
  show wpAny _ R (load s.heap.objs.size >>= _) _ _ s'; refine wpAny_bind (wpAny_load hS' ?_)
  exact wpAny_pure (hZ s' acc' (Moved.drop_new (o := { cls := .type "list", data := .seq ([] : List Value).toArray }) (tk := s.toks) hm (Nat.le_refl _)) hacc)
end
section
variable {X : Cx}
def rJoinD : V → List V → Hp → VK → Prop := fun x xs H Q => ∃ (a : Str) (d : Addr) (kvs : List (Key × V)) (ys : List Str), x = .str a ∧ xs = [.ref d] ∧ Rd H d (.dK kvs) ∧ (kvs.map fun kv => kV kv.1) = ys.map V.str ∧ (ys.map (·.length)).sum + ys.length * a.length ≤ 16777216 ∧ Q (.str (Txt.join a ys)) H
theorem mt_joinD (hcalm : X.calm = true) : MtR X "str.join" rJoinD := by
  intro pins s σ H x xs v us Q I rX rS h
  obtain ⟨a, d, kvs, ys, rfl, rfl, hd, hy, hz, q⟩ := h
  obtain ⟨t, rfl⟩ := rX
  obtain ⟨u, rfl, ru⟩ := rS.one
  cases ru
  obtain ⟨z, noSys, vs, rl, isD⟩ := dk_rd I.hok hd
  obtain ⟨ep, hat⟩ := isD.dictAt
  have lk : kvs.length = vs.length := rl.length
  have keyE : (kvs.map fun kv => kV kv.1) = vs.map fun p => kV p.1 := by
    have e := congrArg (List.map kV) rl.keys
    rw [List.map_map, List.map_map] at e; exact e
  have hlt : d < s.heap.objs.size := by
    obtain ⟨o, es, ho, _⟩ := id hat
    exact Heap.lt_size ho
  have isS : ∀ q, s.TypeIs (Value.str a q) "str" := fun q => typeIs_str s a q
  refine wpAny_call (codeAny_call_builtin F.slot_str_join.plain F.entry_str_join (F.slot_str_join.check _ _ _ _ _ _ _ _ (isS _) (F.args_str_join_2 _ _) ?_))
  rw [join_tree_other]
  refine wpAny_bind (wpAny_typeOf hat.dictOf.typeIs ?_)
  show wpAny _ X.A.in1 ((pyIter (.ref d)).tryCatch _ >>= fun it => collect it >>= fun items => joinTail a items) _ _ s
  refine wpAny_bind (wpAny_tryCatch (wpAny_pyIter_dict noSys hat ?_))
  have kp : ∀ b u, s.heap.get? b = some u → (s.heap.push { cls := .type "dict_keyiterator", data := .fields #[.ref d, .int 0 0, .int vs.length 0, .int ep 0] }).get? b = some u := fun b u e => Heap.get?_push_of_some _ e
  refine wpAny_bind (collectK (n := vs.length) (Walks.dictKeys (knd := mixKind X.prog X.w) (A := X.A.in1.in1) (I.ok.hd hcalm) s.heap.objs.size d (Nat.ne_of_lt hlt) vs ep).toS (fun i s2 st => ?_) ⟨⟨_, Heap.get?_push_size _ rfl, rfl, rfl⟩, hat.keep kp⟩ (fun b hb => ?_) (by simp) (fun s' acc hm hacc => ?_) (by omega))
  · obtain ⟨o, e1, e2, _⟩ := st.1
    exact ⟨o, e1, e2⟩
  · show b < (s.heap.push _).objs.size
    rw [Heap.size_push]
    simp only [List.mem_cons, List.not_mem_nil, or_false] at hb
    rcases hb with e | e
    · rw [e]; exact Nat.lt_succ_self _
    · rw [e]; exact Nat.lt_succ_of_lt hlt
  · have hv : Vals (vs.map fun p => kV p.1) acc.toList := keys_at (by rw [Array.length_toList]; exact hacc.1) fun j v e => hacc.2 j v (by rw [← Array.getElem?_toList]; exact e)
    rw [← keyE, hy] at hv
    obtain ⟨l, hl, ht⟩ := strsAre_values (strs_of_vals hv)
    subst ht
    rw [hl]
    have ok' := joinOk_of hz
    unfold JoinOk at ok'
    rw [Bool.not_eq_true'] at ok'
    have g : Gives (joinTail a (strValues l)) (joinMade a l) := by
      have g0 := gives_joinTail a l ok'
      rcases l with _ | ⟨p, _ | ⟨q, r⟩⟩ <;> exact g0
    refine g _ _ _ (wants _ _) s' (post_join l ⟨joinFit_length ok', fun t' k => ?_⟩)
    rw [Moved.eq_with hm]
    exact ⟨.str _, H, I.kept (t' := k) fun b u e => hm.heap b u (fun hb => absurd (Heap.lt_size e) (by rw [List.mem_singleton.mp hb]; exact Nat.lt_irrefl _)) (kp b u e), ⟨t', rfl⟩, q⟩
end
end VD

set_option Elab.async false
set_option linter.all false
set_option maxRecDepth 100000
set_option maxHeartbeats 4000000
namespace MC
open PySem PySem.Spec PyProof.Rows L2
section
variable {X : Cx} {e : Expr} {te : TE} {p apos cpos pos : Pos}
end
end MC

set_option Elab.async false
set_option linter.all false
set_option maxRecDepth 100000
set_option maxHeartbeats 4000000
set_option exponentiation.threshold 20000
namespace VD
open PySem PySem.Spec L2 MC
open PyProof.Rows hiding St

def keyD : D → Option Key
  | .int i => some (.inl i)
  | .str x => some (.inr x)
  | _ => none
def lookD (es : List (Key × D)) (k : Key) : Option D := (es.find? fun e => decide (e.1 = k)).map (·.2)
def putD (es : List (Key × D)) (k : Key) (d : D) : List (Key × D) := if es.any (fun e => decide (e.1 = k)) then es.map (fun e => if e.1 = k then (e.1, d) else e) else es ++ [(k, d)]
def dropD (es : List (Key × D)) (k : Key) : List (Key × D) := es.filter fun e => decide (e.1 ≠ k)
section
variable {K : PySem.W.Frag} {H : Hp}
theorem RV.key {v : V} {d : D} {k : Key} (h : RV K H v d) (e : keyD d = some k) : v = kV k := by
  unfold keyD at e
  split at e
  · cases e; exact h.int
  · cases e; exact h.str
  · cases e
theorem DKs.look : ∀ {kvs : List (Key × V)} {es : List (Key × D)}, DKs H kvs es → ∀ k, (∃ v d, valV kvs k = some v ∧ lookD es k = some d ∧ DD H v d) ∨ (valV kvs k = none ∧ lookD es k = none)
  | _, _, .nil, k => .inr ⟨rfl, rfl⟩
  | _, _, .cons (k := k0) (v := v) (d := d) h hs, k => by
    by_cases hk : k0 = k
    · refine .inl ⟨v, d, ?_, ?_, h⟩
      · unfold valV; rw [List.find?_cons_of_pos (by simpa using hk)]; rfl
      · unfold lookD; rw [List.find?_cons_of_pos (by simpa using hk)]; rfl
    · have e1 : ∀ kvs : List (Key × V), valV ((k0, v) :: kvs) k = valV kvs k := fun kvs => by unfold valV; rw [List.find?_cons_of_neg (by simpa using hk)]
      have e2 : ∀ es : List (Key × D), lookD ((k0, d) :: es) k = lookD es k := fun es => by unfold lookD; rw [List.find?_cons_of_neg (by simpa using hk)]
      rw [e1, e2]
      exact hs.look k
theorem DKs.anyK : ∀ {kvs : List (Key × V)} {es : List (Key × D)}, DKs H kvs es → ∀ k : Key, (kvs.any fun e => decide (e.1 = k)) = es.any fun e => decide (e.1 = k)
  | _, _, .nil, k => rfl
  | _, _, .cons h hs, k => by rw [List.any_cons, List.any_cons, hs.anyK k]
theorem DKs.append : ∀ {kvs kvs' : List (Key × V)} {es es' : List (Key × D)}, DKs H kvs es → DKs H kvs' es' → DKs H (kvs ++ kvs') (es ++ es')
  | _, _, _, _, .nil, h => h
  | _, _, _, _, .cons h hs, h' => .cons h (hs.append h')
theorem DKs.mapPut {v : V} {d : D} (r : DD H v d) (k : Key) : ∀ {kvs : List (Key × V)} {es : List (Key × D)}, DKs H kvs es → DKs H (kvs.map fun e => if e.1 = k then (e.1, v) else e) (es.map fun e => if e.1 = k then (e.1, d) else e)
  | _, _, .nil => .nil
  | _, _, .cons (k := k0) h hs => by
    have ih := DKs.mapPut r k hs
    rw [List.map_cons, List.map_cons]
    by_cases hk : k0 = k
    · simp only [hk, if_true]; exact .cons r ih
    · simp only [hk, if_false]; exact .cons h ih
theorem DKs.put {v : V} {d : D} (r : DD H v d) {kvs : List (Key × V)} {es : List (Key × D)} (h : DKs H kvs es) (k : Key) : DKs H (putK kvs k v) (putD es k d) := by
  unfold putK putD
  rw [h.anyK k]
  split
  · exact h.mapPut r k
  · exact h.append (.cons r .nil)
theorem DKs.drop : ∀ {kvs : List (Key × V)} {es : List (Key × D)}, DKs H kvs es → ∀ k : Key, DKs H (dropK kvs k) (dropD es k)
  | _, _, .nil, k => .nil
  | _, _, .cons (k := k0) (v := v) (d := d) h hs, k => by
    have ih := hs.drop k
    unfold dropK dropD at ih ⊢
    by_cases hk : k0 = k
    · rw [List.filter_cons_of_neg (by simpa using hk), List.filter_cons_of_neg (by simpa using hk)]; exact ih
    · rw [List.filter_cons_of_pos (by simpa using hk), List.filter_cons_of_pos (by simpa using hk)]; exact .cons h ih
theorem DKs.keys : ∀ {kvs : List (Key × V)} {es : List (Key × D)}, DKs H kvs es → kvs.map (·.1) = es.map (·.1)
  | _, _, .nil => rfl
  | _, _, .cons h hs => by rw [List.map_cons, List.map_cons, hs.keys]
theorem DKs.vals : ∀ {kvs : List (Key × V)} {es : List (Key × D)}, DKs H kvs es → DDs H (kvs.map (·.2)) (es.map (·.2))
  | _, _, .nil => .nil
  | _, _, .cons h hs => .cons h hs.vals
theorem RV.dct {v : V} {es : List (Key × D)} {T : Addr → Prop} (h : RV K (Res T H) v (.dct es)) : ∃ a kvs, v = .ref a ∧ T a ∧ Rd H a (.dK kvs) ∧ DKs (Res T H) kvs es := by
  have h := h.dd rfl
  cases h with
  | dct h1 h2 => exact ⟨_, _, rfl, (rd_res h1).1, (rd_res h1).2, h2⟩
theorem RV.dct0 {v : V} {es : List (Key × D)} (h : RV K H v (.dct es)) : ∃ a kvs, v = .ref a ∧ Rd H a (.dK kvs) ∧ DKs H kvs es := by
  have h := h.dd rfl
  cases h with
  | dct h1 h2 => exact ⟨_, _, rfl, h1, h2⟩
theorem dget_of {a : Addr} {kvs : List (Key × V)} (h : Rd H a (.dK kvs)) (k : Key) : DGet H a (kV k) (valV kvs k) := .inl ⟨kvs, k, h, rfl, rfl⟩
def rDG : R2 := fun x y H Q => ∃ a v, x = .ref a ∧ DGet H a y (some v) ∧ Q v H
def pDGet : D → D → Option D := fun x y => match x with
  | .dct es => (keyD y).bind (lookD es)
  | _ => none
theorem pg_dget : Pg2 K rDG pDGet := by
  intro H T x y dx dy d Q hx hy hp q
  unfold pDGet at hp
  split at hp
  · obtain ⟨k, h1, h2⟩ := Option.bind_eq_some_iff.mp hp
    obtain ⟨a, kvs, rfl, _, h3, h4⟩ := hx.dct
    rcases h4.look k with ⟨v, d', w1, w2, w3⟩ | ⟨_, w2⟩
    · rw [h2] at w2; cases w2
      refine ⟨a, v, rfl, ?_, q v H T (gr_part (.inr w3))⟩
      rw [← w1, hy.key h1]; exact dget_of h3 k
    · rw [h2] at w2; cases w2
  · cases hp
def rDI (neg : Bool) : R2 := fun y x H Q => ∃ a o, x = .ref a ∧ DGet H a y o ∧ Q (.bl (if neg then !o.isSome else o.isSome)) H
def pDIn (neg : Bool) : D → D → Option D := fun y x => match x with
  | .dct es => (keyD y).map fun k => .bl (if neg then !(lookD es k).isSome else (lookD es k).isSome)
  | _ => none
theorem ps_din {neg : Bool} : Ps2 K (rDI neg) (pDIn neg) := by
  intro H y x dy dx d Q hy hx hp q
  unfold pDIn at hp
  split at hp
  · rename_i es
    obtain ⟨k, h1, rfl⟩ := Option.map_eq_some_iff.mp hp
    obtain ⟨a, kvs, rfl, h3, h4⟩ := hx.dct0
    refine ⟨a, _, rfl, by rw [hy.key h1]; exact dget_of h3 k, ?_⟩
    have : (valV kvs k).isSome = (lookD es k).isSome := by
      rcases h4.look k with ⟨v, d', w1, w2, _⟩ | ⟨w1, w2⟩
      · rw [w1, w2]; rfl
      · rw [w1, w2]; rfl
    rw [this]; exact q _ (.bl _)
  · cases hp
end
section
variable {X : Cx} {F : Fx} {R : Rl} {NM : List Nat} {a b c : Expr} {es : List Expr} {p apos pos : Pos} {da db dc : Ev → Option (D × Ev)} {ds : Ev → Option (List D × Ev)} {A A1 A2 A3 M M1 M2 M3 : List Nat} {As : List (List Nat)} {Rb : Rl} {al : List Nat}
theorem ve_dget (hu : X.A.units + 1 < cLine) (h1 : VE X F R NM a da A1 M1) (h2 : VE X F R NM b db A2 M2) (c : clear R A1 M2 = true := by rfl) (hs : NoSl b := by exact fun _ _ => rfl) : VE X F R NM (.Subscript a b pos) (d2 pDGet da db) (A1 ++ A2) (M1 ++ M2) := by
  obtain ⟨t1, p1, s1⟩ := h1.ex
  obtain ⟨t2, p2, s2⟩ := h2.ex
  exact ⟨_, pe_dget hu p1 p2 hs, se_g2 pg_dget s1 s2 c⟩
theorem se_din {K : PySem.W.Frag} {t1 t2 : TE} (h1 : SE K F R NM t1 da A1 M1) (h2 : SE K F R NM t2 db A2 M2) (c : clear R A1 M2 = true) : SE K F R NM (tDIn t1 t2) (d2 (pDIn false) da db) [] (M1 ++ M2) := se_s2 (r := rDI false) ps_din h1 h2 c
theorem se_dni {K : PySem.W.Frag} {t1 t2 : TE} (h1 : SE K F R NM t1 da A1 M1) (h2 : SE K F R NM t2 db A2 M2) (c : clear R A1 M2 = true) : SE K F R NM (tDNotIn t1 t2) (d2 (pDIn true) da db) [] (M1 ++ M2) := se_s2 (r := rDI true) ps_din h1 h2 c
theorem vt_din (hu : X.A.units + 1 < cLine) (h1 : VE X F R NM a da A1 M1) (h2 : VE X F R NM b db A2 M2) (c : clear R A1 M2 = true := by rfl) (hm : behindInMarks .In b = false := by rfl) : VT X F R NM (.Compare a [.In] [b] pos) (dBool (d2 (pDIn false) da db)) (M1 ++ M2) := by
  obtain ⟨t1, p1, s1⟩ := h1.ex
  obtain ⟨t2, p2, s2⟩ := h2.ex
  exact ⟨_, pt_cmp (pc_din hu p1 p2) hm, st_bool (se_din s1 s2 c)⟩
theorem vt_dni (hu : X.A.units + 1 < cLine) (h1 : VE X F R NM a da A1 M1) (h2 : VE X F R NM b db A2 M2) (c : clear R A1 M2 = true := by rfl) (hm : behindInMarks .NotIn b = false := by rfl) : VT X F R NM (.Compare a [.NotIn] [b] pos) (dBool (d2 (pDIn true) da db)) (M1 ++ M2) := by
  obtain ⟨t1, p1, s1⟩ := h1.ex
  obtain ⟨t2, p2, s2⟩ := h2.ex
  exact ⟨_, pt_cmp (pc_dnotin hu p1 p2) hm, st_bool (se_dni s1 s2 c)⟩
def dGet2 (da db dc : Ev → Option (D × Ev)) : Ev → Option (D × Ev) := fun e => match da e with
  | some (.dct es, e1) => match db e1 with
    | some (k, e2) => match dc e2 with
      | some (z, e3) => match keyD k with | some k => some ((lookD es k).getD z, e3) | none => none
      | none => none
    | none => none
  | _ => none
theorem ve_get2 (hu : X.A.units + 1 < cLine) (h1 : VE X F R NM a da A1 M1) (h2 : VE X F R NM b db A2 M2) (h3 : VE X F R NM c dc A3 M3) (c2 : clear R A1 M2 = true := by rfl) (c3 : clear R A1 M3 = true := by rfl) (m : L2.M2 X a "get" apos b c pos := by exact ⟨rfl, rfl, rfl, rfl⟩) :
    VE X F R NM (.Call (.Attribute a "get" apos) [b, c] [] pos) (dGet2 da db dc) (A1 ++ A3) (M1 ++ M2 ++ M3) := by
  obtain ⟨t1, p1, s1⟩ := h1.ex
  obtain ⟨t2, p2, s2⟩ := h2.ex
  obtain ⟨t3, p3, s3⟩ := h3.ex
  refine ⟨_, pe_dget2 hu p1 p2 p3 m, fun PH hP σ H e S Q d e' rr hd q => ?_⟩
  unfold dGet2 at hd
  split at hd
  · rename_i es e1 hx
    split at hd
    · rename_i k e2 hk
      split at hd
      · rename_i z e3 hz
        split at hd
        · rename_i k' hk'
          cases hd
          refine s1 PH hP σ H e S _ _ _ rr hx fun v H1 S1 T st1 r1 tm1 => ?_
          obtain ⟨a, kvs, rfl, _, g1, g2⟩ := tm1.rv.dct
          refine ⟨a, rfl, .inl ⟨kvs, g1⟩, s2 PH hP σ H1 e1 S1 _ _ _ r1 hk fun y H2 S2 U st2 r2 tm2 => s3 PH hP σ H2 e2 S2 _ _ _ r2 hz fun w H3 S3 W st3 r3 tm3 => ?_⟩
          have ey := tm2.rv.key hk'
          subst ey
          have t1 := (tm1.step r1 st2 c2).step r2 st3 c3
          obtain ⟨a', kvs', e, _, g1, g2⟩ := t1.rv.dct
          cases e
          refine ⟨_, dget_of g1 k', ?_⟩
          have st := (st1.trans st2).trans st3
          have tm3 := tm3.older (st1.trans st2).thr
          rcases g2.look k' with ⟨v, d', w1, w2, w3⟩ | ⟨w1, w2⟩
          · rw [w2, Option.getD_some] at q
            rw [w1, Option.getD_some]
            exact q v H3 S3 T st r3 ((⟨.inr w3, t1.thr, t1.prv⟩ : Tm X.K H H3 S3 A1 v d' T).mono fun k hk => List.mem_append_left _ hk)
          · rw [w2, Option.getD_none] at q
            rw [w1, Option.getD_none]
            exact q w H3 S3 W st r3 (tm3.mono fun k hk => List.mem_append_right _ hk)
        · cases hd
      · cases hd
    · cases hd
  · cases hd
def dGet1 (da db : Ev → Option (D × Ev)) : Ev → Option (D × Ev) := fun e => match da e with
  | some (.dct es, e1) => match db e1 with
    | some (k, e2) => match keyD k with | some k => some ((lookD es k).getD .non, e2) | none => none
    | none => none
  | _ => none
theorem ve_dnew : VE X F R NM (.Dict [] [] pos) (dC (.dct [])) [] [] := ⟨_, pe_dnewK, fun PH hP σ H e S Q d e' r hd q => by
  cases hd
  intro p hp
  have n : Nw H (fun _ => False) p (.dK []) (.dct []) := ⟨hp, (fun _ _ z => nomatch z), fun H' _ hp' => .dct (.inl hp') .nil⟩
  exact q _ _ S _ (Stp.of_same (same_new' hp _)) (r.same (same_new' hp _)) (n.flat r (fun b h => h) (fun b z => z.elim) rfl)⟩
end
section
variable {K : PySem.W.Frag} {H : Hp}
end

section
variable {X : Cx} {F : Fx} {R : Rl} {NM : List Nat} {a b c : Expr} {p1 p2 pos : Pos} {da db dc : Ev → Option (D × Ev)} {A A1 A2 A3 M M1 M2 M3 : List Nat} {Rb : Rl} {al : List Nat}
def sPutK (x : Nat) (ks : List Nat) (dv di : Ev → Option (D × Ev)) : Ev → Option Out := fun e => match dv e with
  | some (v, e1) => match e1[x]? with
    | some (some (.dct _)) => match di e1 with
      | some (k, e2) => match e2[x]?, keyD k with
        | some (some (.dct es)), some k => if isRo v || !decide (es.length < sizeLine) then none else some (.nx ((killL ks e2).set x (some (.dct (putD es k v)))))
        | _, _ => none
      | none => none
    | _ => none
  | none => none
theorem vs_putK (x : Nat) (ks : List Nat) {y : Str} (hu : X.A.units + 1 < cLine) (hv1 : VE X F R NM b db A1 M1) (hi : VE X F R NM a da A2 M2) (ok : mutOk F NM R x = true := by rfl) (hk : killOk F R x ks = true := by rfl) (hA : A1 = [] := by rfl)
    (hN : X.N[x]? = some y := by rfl) (hv : Vis X.env.scope y := by first | exact Or.inl rfl | exact Or.inr (Or.inl rfl) | exact Or.inr (Or.inr rfl)) (hd : (y == ("__debug__" : Str)) = false := by decide) (hcd : (y == ("__classdict__" : Str)) = false := by decide)
    (hs : swapsWith b (some (.Subscript (.Name y p1) a p2)) pos.line X.env = pure false := by rfl) : VS X F R NM R Rb al (.Assign [.Subscript (.Name y p1) a p2] b pos) (sPutK x ks db da) := by
  subst hA
  obtain ⟨t1, q1, s1⟩ := hv1.ex
  obtain ⟨t2, q2, s2⟩ := hi.ex
  refine ⟨_, ps_dput hu (pe_var hN hv hd hcd) q2 q1 hs, fun PH hP σ H e S D o r hd q => ?_⟩
  subst hP
  unfold sPutK at hd
  split at hd
  · rename_i v e1 hb
    split at hd
    · rename_i xs0 hx0
      split at hd
      · rename_i k e2 hi'
        split at hd
        · rename_i es k' hx hk'
          split at hd
          · cases hd
          · rename_i hro
            simp only [Bool.or_eq_true, Bool.not_eq_true', decide_eq_false_iff_not, not_or, Bool.not_eq_true, Decidable.not_not] at hro
            cases hd
            refine s1 PH rfl σ H e S _ _ _ r hb fun v1 H1 S1 T st1 r1 tm1 => ?_
            obtain ⟨ad0, ws0, g0, _, _, _⟩ := r1.ownK ok hx0
            refine ⟨_, g0, s2 PH rfl σ H1 e1 S1 _ _ _ r1 hi' fun v2 H2 S2 U st2 r2 tm2 => ?_⟩
            have t1' := tm1.step r1 st2 (by unfold clear; rfl)
            obtain ⟨ad, ws, g1, g2, g3, g4⟩ := r2.ownK ok hx
            rw [g0] at g1; cases g1
            have ek := tm2.rv.key hk'
            subst ek
            refine ⟨ad0, _, rfl, DPut.k g3 (by rw [g4.length]; exact hro.2), ?_⟩
            have hT2 : ∀ b, T b → Imm H2 b ∨ (H b = none ∧ (∀ k, ¬ S2 k b) ∧ NFrz H2 b) := fun b tb => by
              rcases t1'.prv b tb with z | ⟨k, hk, _⟩ | z
              · exact .inl z
              · cases hk
              · exact .inr z
            have nta : ∀ b, ((S2 x b ∧ b ≠ ad0) ∨ T b) → b ≠ ad0 ∧ (S2 x b ∨ T b) := fun b w => by
              rcases w with w | w
              · exact ⟨w.2, .inl w.1⟩
              · refine ⟨fun z => ?_, .inr w⟩
                subst z
                rcases hT2 b w with ⟨ys, z⟩ | z
                · rw [g3] at z; cases z
                · exact z.2.1 x g2
            have hv1' : DD (Res T H2) v1 v := t1'.rv.dd hro.1
            refine mut_end (Q := fun _ H' => D.nx σ H') (v := .non) (res := .non) (T := T) (o' := .dK (putK ws k' v1)) (d := .dct (putD es k' v)) r2 (st1.trans st2) ok hk g0 g2 g3 (fun _ z => nomatch z) (fun _ _ z => nomatch z) t1'.thr hT2 r.dom ?_ .non fun H' S' U' st' r' tm' => q σ H' S' r'
            refine .dct (.inl (by rw [res_in (show S2 x ad0 ∨ T ad0 from .inl g2)]; exact upd_same)) ?_
            exact ((g4.mono (res_up fun b z => .inl z)).put (hv1'.mono (res_up fun b z => .inr z)) k').mono (items_upd' nta)
        · cases hd
      · cases hd
    · cases hd
  · cases hd
end

section
variable {X : Cx} {F : Fx} {R : Rl} {NM : List Nat} {a b : Expr} {k0 : Nat} {p apos mpos kpos cpos cp pos : Pos} {da db : Ev → Option (D × Ev)} {A A1 A2 M M1 M2 : List Nat}
def pMinV : D → Option D := fun x => match x with
  | .dct es => (intsOf (es.map (·.2))).map fun ns => .int (ns.min?.getD 0)
  | _ => none
theorem ve_minV (hc : X.calm = true) (hg : Gl X "min") (hm : X.mg "min" = none) (h : VE X F R NM a da A M) (hbase : attributeBase a "values" X.env (eval a X.env) = eval a X.env := by rfl) (hline : (apos.endLine == mpos.line) = true := by rfl) :
    VE X F R NM (.Call (.Name "min" p) [.Call (.Attribute a "values" apos) [] [] mpos] [⟨some "default", .Constant (.int 0) k0 cp, kpos⟩] pos) (d1 pMinV da) [] M := by
  obtain ⟨t, q, s⟩ := h.ex
  refine ⟨_, pe_minVD hc hg hm q hbase hline, fun PH hP σ H e S Q d e' rr hd q => ?_⟩
  unfold d1 at hd
  split at hd
  · rename_i x e1 hx
    split at hd
    · rename_i z hz
      cases hd
      refine s PH hP σ H e S _ _ _ rr hx fun v H1 S1 T st1 r1 tm1 => ?_
      unfold pMinV at hz
      split at hz
      · obtain ⟨ns, e1, rfl⟩ := Option.map_eq_some_iff.mp hz
        obtain ⟨a, kvs, rfl, _, g1, g2⟩ := tm1.rv.dct
        have ev := g2.vals
        rw [intsOf_eq e1] at ev
        refine ⟨a, kvs, ns, rfl, g1, ev.ints, fun h0 => ?_, fun h0 m h1 h2 => ?_⟩
        · subst h0; exact q _ H1 S1 _ st1 r1 (Sc.tm (DD.int _))
        · have : ns.min? = some m := List.min?_eq_some_iff.mpr ⟨h1, h2⟩
          rw [this] at q
          exact q _ H1 S1 _ st1 r1 (Sc.tm (DD.int _))
      · cases hz
    · cases hd
  · cases hd
def keyStrs : List (Key × D) → Option (List Str)
  | [] => some []
  | (.inr x, _) :: r => (keyStrs r).map (x :: ·)
  | _ :: _ => none
theorem keyStrs_eq {H : Hp} : ∀ {es : List (Key × D)} {ys : List Str} {kvs : List (Key × V)}, keyStrs es = some ys → DKs H kvs es → (kvs.map fun kv => kV kv.1) = ys.map V.str
  | [], _, _, e, h => by cases e; cases h; rfl
  | (.inl i, _) :: r, _, _, e, h => by simp [keyStrs] at e
  | (.inr x, _) :: r, _, _, e, h => by
    obtain ⟨zs, e1, rfl⟩ := Option.map_eq_some_iff.mp (show (keyStrs r).map (x :: ·) = _ from e)
    cases h with
    | cons h hs => rw [List.map_cons, List.map_cons, keyStrs_eq e1 hs]; rfl
def pJoin : D → List D → Option D := fun x es => match x, es with
  | .str a, [.dct es] => (keyStrs es).bind fun ys => if (ys.map (·.length)).sum + ys.length * a.length ≤ 16777216 then some (.str (Txt.join a ys)) else none
  | .str a, [.lst xs] => (strsOf xs).bind fun ys => if (ys.map (·.length)).sum + ys.length * a.length ≤ 16777216 then some (.str (Txt.join a ys)) else none
  | .str a, [.tup xs] => (strsOf xs).bind fun ys => if (ys.map (·.length)).sum + ys.length * a.length ≤ 16777216 then some (.str (Txt.join a ys)) else none
  | _, _ => none
end
end VD

set_option Elab.async false
set_option linter.all false
set_option maxRecDepth 100000
set_option maxHeartbeats 4000000
namespace VD
open PySem PySem.Spec L2 MC
open PyProof.Rows hiding St

def Lik (H H' : Hp) : Prop := ∀ b o, H b = some o → H' b = some o ∨ ∃ kvs, Rd H b (.dK kvs) ∧ Rd H' b (.dK kvs)
theorem rd_dk {H : Hp} {b : Addr} {k l : List (Key × V)} (h : Rd H b (.dK k)) (h' : Rd H b (.dK l)) : k = l := by
  have := rd_det h h' (fun _ _ z => nomatch z) (fun _ _ z => nomatch z)
  cases this; rfl
theorem res_lik {T T' : Addr → Prop} {H H' : Hp} (h : ∀ b, T b → T' b) (l : Lik H H') : Lik (Res T H) (Res T' H') := fun b o q => by
  obtain ⟨t, e⟩ := res_some q
  rcases l b o e with z | ⟨kvs, z1, z2⟩
  · exact .inl (by rw [res_in (h b t)]; exact z)
  · exact .inr ⟨kvs, by unfold Rd; rw [res_in t]; exact z1, by unfold Rd; rw [res_in (h b t)]; exact z2⟩
section
variable {H H' : Hp}
mutual
theorem DD.lik (l : Lik H H') : ∀ {v : V} {d : D}, DD H v d → DD H' v d
  | _, _, .non => .non
  | _, _, .bl b => .bl b
  | _, _, .int i => .int i
  | _, _, .str x => .str x
  | _, _, .lst h hs => .lst (by
      rcases l _ _ h with z | ⟨kvs, z, _⟩
      · exact z
      · rcases z with z | ⟨o, z⟩
        · rw [h] at z; cases z
        · rw [h] at z; cases z) (DDs.lik l hs)
  | _, _, .tup h hs => .tup (by
      rcases l _ _ h with z | ⟨kvs, z, _⟩
      · exact z
      · rcases z with z | ⟨o, z⟩
        · rw [h] at z; cases z
        · rw [h] at z; cases z) (DDs.lik l hs)
  | _, _, .dct h hs => .dct (by
      rcases id h with z | ⟨o, z⟩
      · rcases l _ _ z with w | ⟨kvs, w, w2⟩
        · exact .inl w
        · rw [rd_dk h w]; exact w2
      · rcases l _ _ z with w | ⟨kvs, w, w2⟩
        · exact .inr ⟨o, w⟩
        · rw [rd_dk h w]; exact w2) (DKs.lik l hs)
theorem DDs.lik (l : Lik H H') : ∀ {vs : List V} {ds : List D}, DDs H vs ds → DDs H' vs ds
  | _, _, .nil => .nil
  | _, _, .cons h hs => .cons (DD.lik l h) (DDs.lik l hs)
theorem DKs.lik (l : Lik H H') : ∀ {vs : List (Key × V)} {ds : List (Key × D)}, DKs H vs ds → DKs H' vs ds
  | _, _, .nil => .nil
  | _, _, .cons h hs => .cons (DD.lik l h) (DKs.lik l hs)
end
theorem RV.lik {K : PySem.W.Frag} (l : Lik H H') {v : V} {d : D} (h : RV K H v d) : RV K H' v d := by
  rcases h with ⟨a, ns, h1, h2, h3⟩ | h
  · refine .inl ⟨a, ns, h1, h2, ?_⟩
    rcases h3 with (h3 | ⟨o, h3⟩) | h3
    · rcases l _ _ h3 with z | ⟨kvs, z, _⟩
      · exact .inl (.inl z)
      · rcases z with z | ⟨o, z⟩
        · rw [h3] at z; cases z
        · rw [h3] at z; cases z
    · rcases l _ _ h3 with z | ⟨kvs, z, _⟩
      · exact .inl (.inr ⟨o, z⟩)
      · rcases z with z | ⟨o, z⟩
        · rw [h3] at z; cases z
        · rw [h3] at z; cases z
    · exact .inr h3
  · exact .inr (h.lik l)
end
section
variable {H : Hp} {a : Addr} {kvs : List (Key × V)} {od : Obj}
theorem lik_lock (h : H a = some (.dK kvs)) : Lik H (upd H a (.frz od (.dK kvs))) := fun b o e => by
  by_cases hb : b = a
  · subst hb; exact .inr ⟨kvs, .inl h, .inr ⟨od, upd_same⟩⟩
  · exact .inl (by rw [upd_ne hb]; exact e)
theorem lik_unlock (h : H a = some (.frz od (.dK kvs))) : Lik H (upd H a (.dK kvs)) := fun b o e => by
  by_cases hb : b = a
  · subst hb; exact .inr ⟨kvs, .inr ⟨od, h⟩, .inl upd_same⟩
  · exact .inl (by rw [upd_ne hb]; exact e)
theorem imm_upd {o o' : HO} {b : Addr} (h : H a = some o) (n : ∀ xs, o ≠ .tup xs) (i : Imm H b) : b ≠ a ∧ Imm (upd H a o') b := by
  obtain ⟨xs, i⟩ := i
  have hb : b ≠ a := fun z => by rw [z, h] at i; exact n xs (Option.some.inj i)
  exact ⟨hb, xs, by rw [upd_ne hb]; exact i⟩
theorem nfrz_upd {o' : HO} {b : Addr} (h : NFrz H b) (hb : b ≠ a) : NFrz (upd H a o') b := fun x u z => by
  rw [upd_ne hb] at z; exact h x u z
end

section
variable {K : PySem.W.Frag} {F : Fx} {R : Rl} {PH : List Ph} {H : Hp} {σ : St} {e : Ev} {S : FPs} {x ix : Nat} {a : Addr} {kvs : List (Key × V)} {es : List (Key × D)} {od : Obj}
def phL (ix : Nat) (a : Addr) (kvs : List (Key × V)) (es : List (Key × D)) (od : Obj) : Ph := ⟨ix, [.ref a], [.dct es], [(a, .frz od (.dK kvs))], fun b o z => by cases List.mem_singleton.mp z; exact fun _ z => nomatch z⟩
theorem RVs.lik {H H' : Hp} (l : Lik H H') {vs : List V} {ds : List D} (h : RVs K H vs ds) : RVs K H' vs ds := by
  induction h with
  | nil => exact .nil
  | cons h _ ih => exact .cons (h.lik l) ih
theorem Rp.lock (r : Rp K F R PH H σ e S) (hS : S x a) (hx : RV K (Res (S x) H) (.ref a) (.dct es)) (ha : H a = some (.dK kvs)) (hi : F.nl + F.np ≤ ix) (hm : ∀ p ∈ PH, p.ix ≠ ix) (hmu : ∀ m ∈ F.mu, m ≠ ix) :
    Rp K F (rset R ix [x]) (phL ix a kvs es od :: PH) (upd H a (.frz od (.dK kvs))) σ e (setS S ix (S x)) := by
  have lk := lik_lock (od := od) ha
  have im : ∀ {b}, Imm H b → Imm (upd H a (.frz od (.dK kvs))) b := fun i => (imm_upd ha (fun _ z => nomatch z) i).2
  have th : ∀ {b}, H b ≠ none → upd H a (.frz od (.dK kvs)) b ≠ none := fun h => thr_keep h
  have one : ∀ j b, j ≠ ix → rel (rset R ix [x]) ix j = false → S x b → S j b → Imm H b := fun j b hj hr tb sb => by
    obtain ⟨q1, q2⟩ := rset_i hj hr
    exact r.dis x j b (fun w => q1 (by simp [w])) (q2 x (by simp)) tb sb
  have lt : ∀ j d', e[j]? = some (some d') → j ≠ ix := fun j d' q z => by
    have := (List.getElem?_eq_some_iff.mp q).1
    rw [r.len] at this; omega
  refine ⟨r.len, r.lenS, fun j d' q => ?_, fun j k b h1 h2 h3 h4 => ?_, fun j b q => ?_, fun b o q1 q2 => ?_, fun b q => th (r.dom b q), fun j b q => ?_, fun p hp hpm => ?_, fun j b q => ?_, fun p hp => ?_, r.mup, fun m hm' b q => ?_, fun m hm' b q => ?_, fun k b h1 h2 => by
    rw [setS_ne (show k ≠ ix from fun z => h2 _ List.mem_cons_self z.symm)]; exact r.un k b h1 fun p hp => h2 p (List.mem_cons_of_mem _ hp)⟩
  · obtain ⟨w, q1, q2⟩ := r.rep j d' q
    exact ⟨w, q1, by rw [setS_ne (lt j d' q)]; exact q2.lik (res_lik (fun _ z => z) lk)⟩
  · by_cases hj : j = ix
    · subst hj
      rw [setS_eq] at h3
      rw [setS_ne (Ne.symm h1)] at h4
      exact im (one k b (Ne.symm h1) h2 h3 h4)
    · by_cases hk : k = ix
      · subst hk
        rw [setS_eq] at h4
        rw [setS_ne hj] at h3
        exact im (one j b hj (by rw [rel_comm]; exact h2) h4 h3)
      · rw [setS_ne hj] at h3; rw [setS_ne hk] at h4
        exact im (r.dis j k b h1 (rset_o hj hk h2) h3 h4)
  · by_cases hj : j = ix
    · rw [hj, setS_eq] at q; exact th (r.thr x b q)
    · rw [setS_ne hj] at q; exact th (r.thr j b q)
  · rcases r.frm b o q1 q2 with z | ⟨p, hp, z⟩
    · by_cases hb : b = a
      · subst hb
        rw [ha] at z; cases z
        exact .inr ⟨_, List.mem_cons_self, od, List.mem_singleton.mpr rfl⟩
      · exact .inl (by rw [upd_ne hb]; exact z)
    · exact .inr ⟨p, List.mem_cons_of_mem _ hp, z⟩
  · by_cases hj : j = ix
    · rw [hj, setS_eq] at q; exact (r.prv x b q).imp_left im
    · rw [setS_ne hj] at q; exact (r.prv j b q).imp_left im
  · rw [setS_ne (by omega)]; exact r.phm p hp hpm
  · have up : NFrz H b ∨ (∃ p, p < F.np ∧ p ∉ F.mu ∧ S (F.nl + p) b) ∨ (∃ p ∈ PH, ∃ o u, (b, .frz o u) ∈ p.ob) → NFrz (upd H a (.frz od (.dK kvs))) b ∨ (∃ p, p < F.np ∧ p ∉ F.mu ∧ setS S ix (S x) (F.nl + p) b) ∨ ∃ p ∈ phL ix a kvs es od :: PH, ∃ o u, (b, .frz o u) ∈ p.ob := fun z => by
      by_cases hb : b = a
      · subst hb; exact .inr (.inr ⟨_, List.mem_cons_self, od, _, List.mem_singleton.mpr rfl⟩)
      rcases z with w | ⟨p, hp, hpm, w⟩ | ⟨p, hp, w⟩
      · exact .inl (nfrz_upd w hb)
      · exact .inr (.inl ⟨p, hp, hpm, by rw [setS_ne (by omega)]; exact w⟩)
      · exact .inr (.inr ⟨p, List.mem_cons_of_mem _ hp, w⟩)
    by_cases hj : j = ix
    · rw [hj, setS_eq] at q; exact up (r.fz x b q)
    · rw [setS_ne hj] at q; exact up (r.fz j b q)
  · rcases List.mem_cons.mp hp with rfl | hp
    · refine ⟨hi, ?_, fun b o z => ?_⟩
      · show RVs K (Res (setS S ix (S x) ix) _) [.ref a] [.dct es]
        rw [setS_eq]; exact .cons (hx.lik (res_lik (fun _ z => z) lk)) .nil
      · cases List.mem_singleton.mp z
        refine ⟨?_, upd_same⟩
        show setS S ix (S x) ix a
        rw [setS_eq]; exact hS
    · rw [setS_ne (hm p hp)]
      obtain ⟨l, q1, q2⟩ := r.ph p hp
      refine ⟨l, q1.lik (res_lik (fun _ z => z) lk), fun b o z => ⟨(q2 b o z).1, ?_⟩⟩
      have hb : b ≠ a := fun w => by
        subst w
        have := (q2 b o z).2
        rw [ha] at this; cases this
        exact p.ok _ _ z _ rfl
      rw [upd_ne hb]; exact (q2 b o z).2
  · rw [setS_ne (hmu m hm')] at q; exact (r.mus m hm' b q).imp_left im
  · rw [setS_ne (hmu m hm')]; exact r.mgr m hm' b q
def Free (PH : List Ph) (a : Addr) : Prop := ∀ p ∈ PH, ∀ o, (a, o) ∉ p.ob
theorem Rp.free (r : Rp K F R PH H σ e S) (ha : H a = some (.dK kvs)) : Free PH a := fun p hp o z => by
  have := ((r.ph p hp).2.2 a o z).2
  rw [ha] at this; cases this
  exact p.ok _ _ z _ rfl
def Was (F : Fx) (PH : List Ph) (a : Addr) (kvs : List (Key × V)) : Prop := ∀ o, F.H0 a = some o → (Imm F.H0 a ∨ ∀ m ∈ F.mu, ¬ F.S0 m a) → o = .dK kvs ∨ ∃ p ∈ PH, ∃ od, (a, .frz od o) ∈ p.ob
theorem Rp.was (r : Rp K F R PH H σ e S) (ha : H a = some (.dK kvs)) : Was F PH a kvs := fun o q1 q2 => (r.frm a o q1 q2).imp_left fun z => by rw [ha] at z; exact (Option.some.inj z).symm
theorem Rp.unlock (r : Rp K F R (phL ix a kvs es od :: PH) H σ e S) (hf : Free PH a) (hw : Was F PH a kvs) (hm : ∀ p ∈ PH, p.ix ≠ ix) (hmu : ∀ m ∈ F.mu, m ≠ ix) :
    Rp K F (dropR R ix) PH (upd H a (.dK kvs)) σ e (setS S ix fun _ => False) := by
  obtain ⟨l0, _, lo⟩ := r.ph _ List.mem_cons_self
  have ha : H a = some (.frz od (.dK kvs)) := (lo a _ (List.mem_singleton.mpr rfl)).2
  have lk := lik_unlock ha
  have im : ∀ {b}, Imm H b → Imm (upd H a (.dK kvs)) b := fun i => (imm_upd ha (fun _ z => nomatch z) i).2
  have th : ∀ {b}, H b ≠ none → upd H a (.dK kvs) b ≠ none := fun h => thr_keep h
  have lt : ∀ j d', e[j]? = some (some d') → j ≠ ix := fun j d' q z => by
    have := (List.getElem?_eq_some_iff.mp q).1
    have l0 : F.nl + F.np ≤ ix := l0
    rw [r.len] at this; omega
  have ne : ∀ j b, setS S ix (fun _ => False) j b → j ≠ ix ∧ S j b := fun j b h => by
    by_cases hj : j = ix
    · rw [hj, setS_eq] at h; exact h.elim
    · rw [setS_ne hj] at h; exact ⟨hj, h⟩
  have l0 : F.nl + F.np ≤ ix := l0
  refine ⟨r.len, r.lenS, fun j d' q => ?_, fun j k b h1 h2 h3 h4 => ?_, fun j b q => th (r.thr j b (ne j b q).2), fun b o q1 q2 => ?_, fun b q => th (r.dom b q), fun j b q => (r.prv j b (ne j b q).2).imp_left im, fun p hp hpm => ?_, fun j b q => ?_, fun p hp => ?_, r.mup, fun m hm' b q => (r.mus m hm' b (ne m b q).2).imp_left im, fun m hm' b q => ?_, fun k b h1 h2 h => r.un k b h1 (fun p hp => (List.mem_cons.mp hp).elim (fun z => by rw [z]; exact Ne.symm (ne k b h).1) fun z => h2 p z) (ne k b h).2⟩
  · obtain ⟨w, q1, q2⟩ := r.rep j d' q
    exact ⟨w, q1, by rw [setS_ne (lt j d' q)]; exact q2.lik (res_lik (fun _ z => z) lk)⟩
  · obtain ⟨n3, h3⟩ := ne j b h3
    obtain ⟨n4, h4⟩ := ne k b h4
    exact im (r.dis j k b h1 (dropR_o n3 n4 h2) h3 h4)
  · by_cases hb : b = a
    · subst hb
      rcases hw o q1 q2 with z | z
      · rw [z]; exact .inl upd_same
      · exact .inr z
    · rcases r.frm b o q1 q2 with z | ⟨p, hp, od', z⟩
      · exact .inl (by rw [upd_ne hb]; exact z)
      · rcases List.mem_cons.mp hp with rfl | hp
        · cases List.mem_singleton.mp z; exact absurd rfl hb
        · exact .inr ⟨p, hp, od', z⟩
  · rw [setS_ne (by omega)]; exact r.phm p hp hpm
  · obtain ⟨nj, q'⟩ := ne j b q
    by_cases hb : b = a
    · subst hb; exact .inl fun x u z => by rw [upd_same] at z; cases z
    rcases r.fz j b q' with w | ⟨p, hp, hpm, w⟩ | ⟨p, hp, o, u, w⟩
    · exact .inl (nfrz_upd w hb)
    · exact .inr (.inl ⟨p, hp, hpm, by rw [setS_ne (by omega)]; exact w⟩)
    · rcases List.mem_cons.mp hp with rfl | hp
      · cases List.mem_singleton.mp w; exact absurd rfl hb
      · exact .inr (.inr ⟨p, hp, o, u, w⟩)
  · obtain ⟨l, q1, q2⟩ := r.ph p (List.mem_cons_of_mem _ hp)
    rw [setS_ne (hm p hp)]
    exact ⟨l, q1.lik (res_lik (fun _ z => z) lk), fun b o z => ⟨(q2 b o z).1, by rw [upd_ne (fun w => by subst w; exact hf p hp o z)]; exact (q2 b o z).2⟩⟩
  · rw [setS_ne (hmu m hm')]; exact r.mgr m hm' b q
theorem Fin.unlock {al : List Nat} {v : V} {d : D} {T : Addr → Prop} (f : Fin K F (phL ix a kvs es od :: PH) al H S v d T e) (hf : Free PH a) (hw : Was F PH a kvs) : Fin K F PH al (upd H a (.dK kvs)) S v d T e := by
  have ha : H a = some (.frz od (.dK kvs)) := f.lks _ List.mem_cons_self a _ (List.mem_singleton.mpr rfl)
  have lk := lik_unlock ha
  have im : ∀ {b}, Imm H b → Imm (upd H a (.dK kvs)) b := fun i => (imm_upd ha (fun _ z => nomatch z) i).2
  have th : ∀ {b}, H b ≠ none → upd H a (.dK kvs) b ≠ none := fun h => thr_keep h
  have nfa : NFrz (upd H a (.dK kvs)) a := fun x u z => by rw [upd_same] at z; cases z
  refine ⟨fun b o q1 q2 => ?_, fun b q => th (f.dom b q), f.rv.lik (res_lik (fun _ z => z) lk), fun b q => th (f.thr b q), fun b tb => ?_, fun m hm dm q => ?_, fun m hm b q => ?_, f.mgr, fun m hm m' hm' n b h1 h2 => im (f.mdis m hm m' hm' n b h1 h2), fun p hp b o z => by rw [upd_ne (fun w => by subst w; exact hf p hp o z)]; exact f.lks p (List.mem_cons_of_mem _ hp) b o z⟩
  · by_cases hb : b = a
    · subst hb
      rcases hw o q1 q2 with z | z
      · rw [z]; exact .inl upd_same
      · exact .inr z
    · rcases f.keep b o q1 q2 with z | ⟨p, hp, od', z⟩
      · exact .inl (by rw [upd_ne hb]; exact z)
      · rcases List.mem_cons.mp hp with rfl | hp
        · cases List.mem_singleton.mp z; exact absurd rfl hb
        · exact .inr ⟨p, hp, od', z⟩
  · rcases f.prv b tb with z | ⟨z1, z2, z3⟩ | z
    · exact .inl (im z)
    · refine .inr (.inl ⟨z1, z2, ?_⟩)
      by_cases hb : b = a
      · subst hb; exact .inl nfa
      · rcases z3 with z3 | ⟨p, hp, o, u, z⟩
        · exact .inl (nfrz_upd z3 hb)
        · rcases List.mem_cons.mp hp with rfl | hp
          · cases List.mem_singleton.mp z; exact absurd rfl hb
          · exact .inr ⟨p, hp, o, u, z⟩
    · exact .inr (.inr z)
  · obtain ⟨w, q1, q2⟩ := f.out m hm dm q
    exact ⟨w, q1, q2.lik (res_lik (fun _ z => z) lk)⟩
  · obtain ⟨q1, q2, q3⟩ := f.mth m hm b q
    refine ⟨th q1, ?_, q3.imp_left im⟩
    by_cases hb : b = a
    · subst hb; exact nfa
    · exact nfrz_upd q2 hb
end

def kD : Key → D
  | .inl i => .int i
  | .inr x => .str x
theorem dd_key {H : Hp} (k : Key) : DD H (kV k) (kD k) := by
  cases k with
  | inl i => exact .int i
  | inr x => exact .str x
structure Kd (K : PySem.W.Frag) (wi : TE → TI) (I : Addr → Obj → List (Key × V) → It) (f : List (Key × D) → List D) : Prop where
  wi : ∀ (x : Nat) (σ : St) (H : Hp) (R : It → Hp → Prop) (a : Addr) (o : Obj) (kvs : List (Key × V)), σ[x]? = some (some (.ref a)) → H a = some (.frz o (.dK kvs)) → R (I a o kvs) H → wi (tVar x) σ H R
  wk : ∀ (a : Addr) (o : Obj) (kvs : List (Key × V)) (es : List (Key × D)), Wk K (I a o kvs) [.ref a] [.dct es] [(a, .frz o (.dK kvs))] (f es)
theorem DKs.at {H : Hp} : ∀ {kvs : List (Key × V)} {es : List (Key × D)}, DKs H kvs es → ∀ {i : Nat} {k : Key} {v : V}, kvs[i]? = some (k, v) → ∃ d, es[i]? = some (k, d) ∧ DD H v d
  | _, _, .nil, _, _, _, e => by simp at e
  | _, _, .cons h _, 0, _, _, e => by simp at e; obtain ⟨rfl, rfl⟩ := e; exact ⟨_, rfl, h⟩
  | _, _, .cons _ hs, i + 1, k, v, e => by
    obtain ⟨d, e1, e2⟩ := DKs.at hs (i := i) (k := k) (v := v) (by simpa using e)
    exact ⟨d, by simpa using e1, e2⟩
section
variable {K : PySem.W.Frag}
theorem st_dct {a : Addr} {o : Obj} {kvs : List (Key × V)} {es : List (Key × D)} {H : Hp} {T : Addr → Prop} (h : StH K [.ref a] [.dct es] [(a, .frz o (.dK kvs))] H T) : H a = some (.frz o (.dK kvs)) ∧ DKs (Res T H) kvs es := by
  obtain ⟨h1, h2⟩ := h
  obtain ⟨t, ha⟩ := h2 a _ (List.mem_singleton.mpr rfl)
  cases h1 with | cons h1 _ =>
  rcases h1 with ⟨_, _, z, _⟩ | h1
  · cases z
  · cases h1 with
    | dct g1 g2 =>
      refine ⟨ha, ?_⟩
      rw [← rd_dk (rd_res g1).2 (.inr ⟨o, ha⟩)]; exact g2
theorem kd_items : Kd K iItems Iti (fun es => es.map fun e => .tup [kD e.1, e.2]) := by
  refine ⟨fun x σ H R a o kvs hx ha q => ⟨_, hx, a, o, kvs, rfl, ha, q⟩, fun a o kvs es => ⟨fun i H T hi st => ?_, fun H T st => ?_, fun i H T x H' hi st y => ?_⟩⟩
  · obtain ⟨h1, h2⟩ := st_dct st; exact ⟨h1, by rw [h2.length]; simpa using hi⟩
  · obtain ⟨h1, h2⟩ := st_dct st; exact ⟨h1, by rw [h2.length, List.length_map]; exact Nat.le_refl _⟩
  · obtain ⟨h1, h2⟩ := st_dct st
    obtain ⟨t, k, v, e, rfl, hn, rfl⟩ := y
    obtain ⟨d, e1, e2⟩ := h2.at e
    exact ⟨.tup [kD k, d], by rw [List.getElem?_map, e1]; rfl, _, gr_new (K := K) hn (fun _ _ z => nomatch z) fun H' sm hp' => .tup hp' (.cons (dd_key k) (.cons (e2.mono sm) .nil))⟩
end

def dKd (x : Nat) (f : List (Key × D) → List D) : Ev → Option (List D × Ev) := fun e => match e[x]? with
  | some (some (.dct es)) => some (f es, e)
  | _ => none
section
variable {X : Cx} {F : Fx} {R R1 R2 Rb Rl' : Rl} {NM : List Nat} {A Is M M2 M3 Ae : List Nat} {fl : Bool} {tg it : Expr} {pos : Pos} {bd : D → Ev → Option Ev} {al : List Nat} {body : Ev → Option Out} {sts : List Stmt}
theorem Rp.isD {K : PySem.W.Frag} {PH : List Ph} {H : Hp} {σ : St} {e : Ev} {S : FPs} {x : Nat} {es : List (Key × D)} (r : Rp K F R PH H σ e S) (h : e[x]? = some (some (.dct es))) :
    ∃ a kvs, σ[x]? = some (some (.ref a)) ∧ S x a ∧ RV K (Res (S x) H) (.ref a) (.dct es) ∧ (H a = some (.dK kvs) ∨ ∃ o, H a = some (.frz o (.dK kvs))) := by
  obtain ⟨v, h1, h2⟩ := r.rep x _ h
  rcases id h2 with ⟨_, _, z, _⟩ | h3
  · cases z
  · cases h3 with
    | dct g1 g2 =>
      obtain ⟨t, g⟩ := rd_res g1
      exact ⟨_, _, h1, t, h2, g⟩
theorem Rp.popOk {K : PySem.W.Frag} {PH : List Ph} {H : Hp} {σ : St} {e : Ev} {S : FPs} {x : Nat} {a : Addr} {o : Obj} {u : HO} (r : Rp K F R PH H σ e S) (hS : S x a) (ha : H a = some (.frz o u)) (hu : ∀ o' w, u ≠ .frz o' w) : PopOk F PH [(a, .frz o u)] := by
  refine ⟨fun b o' u' z => ?_, fun b o' od q1 q2 z => ?_⟩
  · cases List.mem_singleton.mp z
    rcases r.fz x a hS with w | ⟨p, hp, hpm, w⟩ | w
    · exact absurd ha (w _ _)
    · rw [r.phm p hp hpm] at w; exact .inl ⟨p, hp, hpm, w⟩
    · exact .inr w
  · cases List.mem_singleton.mp z
    rcases r.frm a u q1 q2 with w | w
    · rw [ha] at w; cases w
    · exact w
theorem vs_forK (x ix : Nat) (Rl' : Rl) {wi : TE → TI} {I : Addr → Obj → List (Key × V) → It} {f : List (Key × D) → List D} (k : Kd X.K wi I f) (hp : PassesOwn (model X.prog X.w) X.A X.env X.xe) (hc : X.calm = true) (pi : PI X tg it (wi (tVar x)))
    (hg : VG X F Rl' (ix :: NM) R1 (if fl then [] else [ix]) fl Is tg bd) (hb : VB X F R1 (ix :: NM) R2 Rl' al sts body)
    (ok : forOk F NM ix = true := by rfl) (w1 : subR (rset R ix [x]) Rl' = true := by rfl) (w2 : subR R2 Rl' = true := by rfl) (hs : ∀ x, foldedSetIterable it X.env x = pure x := by intro _; rfl) :
    VS X F R NM (dropR Rl' ix) Rb al (.For tg it sts [] pos) (sFor (dKd x f) (bFl fl bd) body) := by
  obtain ⟨g, pg, sg⟩ := hg.ex
  obtain ⟨t, pb, sb⟩ := hb.ex
  have ps := ps_for (pos := pos) hp hc pi pg pb hs
  refine ⟨fun D σ H => tLock (tFor (wi (tVar x)) g t) D σ H ∨ tFor (wi (tVar x)) g t D σ H, ⟨fun pins s σ H D I h => h.elim (fun z => (ps_lock ps).run pins s σ H D I z) fun z => ps.run pins s σ H D I z⟩, fun PH hP σ H e S D o r hd q => ?_⟩
  obtain ⟨ok1, hix, ok3⟩ := forOk_out ok hP
  unfold sFor dKd at hd
  split at hd
  · rename_i items e1 hx
    split at hx
    · rename_i es hes
      cases hx
      obtain ⟨a, kvs, h1, h2, h3, h4⟩ := r.isD hes
      rcases h4 with h4 | ⟨o', h4⟩
      · have fr := r.free h4
        have wa := r.was h4
        refine .inl ⟨a, _, h4, trivial, fun od => ?_⟩
        refine k.wi x σ _ _ a od kvs h1 upd_same ?_
        refine for_core (p0 := phL ix a kvs es od) (Rl' := Rl') sg sb w2 hP (k.wk a od kvs es) ((r.lock (od := od) h2 h3 h4 ok1 hix ok3).weak w1) hd (fun e S H σ r ho => ?_) fun d e v H S T f ho => ?_
        · subst ho
          exact ⟨((r.ph _ List.mem_cons_self).2.2 a _ (List.mem_singleton.mpr rfl)).2, q σ _ _ (r.unlock fr wa hix ok3)⟩
        · subst ho
          exact ⟨f.lks _ List.mem_cons_self a _ (List.mem_singleton.mpr rfl), q v _ S T (f.unlock fr wa)⟩
      · have po := r.popOk h2 h4 (fun _ _ z => nomatch z)
        refine .inr (k.wi x σ _ _ a o' kvs h1 h4 ?_)
        have ti : Ti X.K H H S [x] [.ref a] [.dct es] [(a, .frz o' (.dK kvs))] (S x) := ⟨.cons h3 .nil, r.thr x, fun b tb => .inr (.inl ⟨x, by simp, tb⟩), (fun b o z => by cases List.mem_singleton.mp z; exact ⟨h2, h4⟩), fun b o z => by cases List.mem_singleton.mp z; exact fun _ z => nomatch z⟩
        refine for_core (p0 := ⟨ix, [.ref a], [.dct es], _, ti.okd⟩) sg sb w2 hP (k.wk a o' kvs es) ((r.push ti r.dom ok1 hix ok3).weak w1) hd (fun e S H σ r ho => ?_) fun d e v H S T f ho => ?_
        · subst ho; exact q σ H _ (r.pop (p0 := ⟨ix, _, _, _, ti.okd⟩) hix ok3 po)
        · subst ho; exact q v H S T (f.pop po)
    · cases hx
  · cases hd

end
end VD

set_option Elab.async false
set_option linter.all false
set_option maxRecDepth 100000
set_option maxHeartbeats 4000000
namespace MC
open PySem PySem.Spec L2
open PyProof.Rows hiding St

def tyD : PyData → String
  | .none => "NoneType"
  | .bool _ => "bool"
  | .int _ => "int"
  | .str _ => "str"
  | .list _ => "list"
  | .tuple _ => "tuple"
  | .dict _ => "dict"
theorem ty_of {K : PySem.W.Frag} {H : Hp} {x : V} {d : PyData} (h : DD H x d) : TyX K H x (.type (tyD d)) := by
  cases h with
  | non => exact .base .non
  | bl b => exact .base (.bl b)
  | int i => exact .base (.int i)
  | str z => exact .base (.str z)
  | lst h _ => exact .base (.lst h)
  | tup h _ => exact .base (.tup h)
  | dct0 h => exact .base (.dK h)
def dStr : PyData → Bool | .str _ => true | _ => false
def dInt : PyData → Bool | .int _ => true | .bool _ => true | _ => false
def dBool : PyData → Bool | .bool _ => true | _ => false
def dLst : PyData → Bool | .list _ => true | _ => false
def dTup : PyData → Bool | .tuple _ => true | _ => false
def dSeq : PyData → Bool | .list _ => true | .tuple _ => true | _ => false
def isT (b a : String) : Bool := (a == b) || (b == "int" && a == "bool")
theorem kb : ∀ a ∈ ["NoneType", "bool", "int", "str", "list", "tuple", "dict"], ∀ b ∈ ["str", "int", "bool", "list", "tuple", "dict"], kitB a b = some (isT b a) := by decide +kernel
theorem tyD_mem (d : PyData) : tyD d ∈ ["NoneType", "bool", "int", "str", "list", "tuple", "dict"] := by cases d <;> simp [tyD]
section
variable {K : PySem.W.Frag} {H : Hp} {x : V} {d : PyData} {Q : VK}
theorem kb_at (b : String) (hb : b ∈ ["str", "int", "bool", "list", "tuple", "dict"]) : PySem.W.kitOne K (.type (tyD d)) (.type b) = some (isT b (tyD d)) := kit_ty (kb _ (tyD_mem d) b hb)
theorem kI_str : PySem.W.kitOne K (.type (tyD d)) (.type "str") = some (dStr d) := (kb_at _ (by simp)).trans (by cases d <;> simp [isT, tyD, dStr])
theorem kI_int : PySem.W.kitOne K (.type (tyD d)) (.type "int") = some (dInt d) := (kb_at _ (by simp)).trans (by cases d <;> simp [isT, tyD, dInt])
theorem kI_bool : PySem.W.kitOne K (.type (tyD d)) (.type "bool") = some (dBool d) := (kb_at _ (by simp)).trans (by cases d <;> simp [isT, tyD, dBool])
theorem kI_tuple : PySem.W.kitOne K (.type (tyD d)) (.type "tuple") = some (dTup d) := (kb_at _ (by simp)).trans (by cases d <;> simp [isT, tyD, dTup])
theorem kit_seq : PySem.W.kitAny K (.type (tyD d)) [.type "list", .type "tuple"] = some (dSeq d) := by
  have h1 := kb_at (K := K) (d := d) "list" (by simp)
  have h2 := kb_at (K := K) (d := d) "tuple" (by simp)
  refine kitAny_cons h1 (fun e => kitAny_cons h2 (fun e2 => ?_) fun e2 => ?_) fun e => ?_
  · rw [show dSeq d = false from by cases d <;> simp [isT, tyD, dSeq] at e e2 ⊢]
    rfl
  · cases d <;> simp [isT, tyD, dSeq] at e e2 ⊢
  · cases d <;> simp [isT, tyD, dSeq] at e ⊢
theorem cl_seq : Paired ClsV [.ty "list", .ty "tuple"] [.type "list", .type "tuple"] := .cons (.ty _) (.cons (.ty _) .nil)
end

section
variable {X : Cx} {K : PySem.W.Frag} (hK : X.K = K)
include hK
theorem k_ix_tup : IxR X (rIxT K) := by subst hK; exact ix_tup
def rLenQ (K : PySem.W.Frag) : List V → Hp → VK → Prop := fun xs H Q => ∃ p ys, xs = [.ref p] ∧ (SqL K H p ys ∨ SqT K H p ys) ∧ Q (.int ys.length) H
omit hK in
def rLenZ : List V → Hp → VK → Prop := fun xs H Q => ∃ z, xs = [.str z] ∧ z.length ≤ sizeLine ∧ Q (.int z.length) H
theorem k_len_seq : CallR X (.builtin "len") (rLenQ K) := by subst hK; exact call_len_seq
theorem k_len_str : CallR X (.builtin "len") rLenZ := call_len_str
def rTupleOf (K : PySem.W.Frag) : List V → Hp → VK → Prop := fun xs H Q => ∃ p ys, xs = [.ref p] ∧ ((SqL K H p ys ∧ ∀ l, H l = none → Q (.ref l) (upd H l (.tup ys))) ∨ (SqT K H p ys ∧ Q (.ref p) H))
theorem k_isi : CallR X (.builtin "isinstance") (rIsi K) := by subst hK; exact call_isi
theorem k_isiT : CallR X (.builtin "isinstance") (rIsiT K) := by subst hK; exact call_isiT
theorem k_list {tg l : Expr} {tl : TE} (hl : PE X l tl) : PI X tg l (iList K tl) := by subst hK; exact pi_list hl
theorem k_seq {tg l : Expr} {tl : TE} (hl : PE X l tl) : PI X tg l (iSeq K tl) := by subst hK; exact pi_seq hl
theorem k_bm {T : String} {r : V → List V → Hp → VK → Prop} {e : Expr} {to : TE} {t : TA} (h : PE X e (tBM X.K T r to t)) : PE X e (tBM K T r to t) := by subst hK; exact h
theorem k_bm0 {T : String} {r : V → List V → Hp → VK → Prop} {e : Expr} {to : TE} (h : PE X e (tBM0 X.K T r to)) : PE X e (tBM0 K T r to) := by subst hK; exact h
end
end MC

set_option Elab.async false
set_option linter.all false
set_option maxRecDepth 100000
set_option maxHeartbeats 4000000
namespace MC
open PySem PySem.Spec L2
open PyProof.Rows hiding St

def isSign (c : Nat) : Bool := decide (97 ≤ c) && decide (c ≤ 122)
def isThingS (z : Str) : Bool := decide (1 ≤ z.length) && decide (z.length ≤ 8) && z.cps.toList.all isSign
def thingD : PyData → Bool
  | .str z => isThingS z
  | _ => false
def wholeD : PyData → Bool
  | .int _ => true
  | _ => false
def timesOk (t : Int) : Bool := decide (1 ≤ t) && decide (t ≤ 1000000000000000000000000000000)
def dNil : PyData → Bool
  | .list [] => true
  | .tuple [] => true
  | _ => false
mutual
def rowD : PyData → Bool
  | .list xs => partsD xs
  | .tuple xs => partsD xs
  | _ => false
def partD : PyData → Bool
  | .str z => isThingS z
  | .tuple [r, .int t] => timesOk t && !dNil r && rowD r
  | _ => false
def partsD : List PyData → Bool
  | [] => true
  | x :: xs => partD x && partsD xs
end
def againD : PyData → Bool
  | .tuple [r, .int t] => dSeq r && !dNil r && timesOk t
  | _ => false
def innerD : PyData → PyData
  | .tuple [r, _] => r
  | d => d
theorem rowD_seq {d : PyData} (h : dSeq d = false) : rowD d = false := by
  cases d <;> first | rfl | cases h
theorem partD_eq (d : PyData) : partD d = (if againD d then rowD (innerD d) else thingD d) := by
  unfold partD
  split
  · rename_i z
    rfl
  · rename_i r t
    have e : againD (.tuple [r, .int t]) = (dSeq r && !dNil r && timesOk t) := rfl
    rw [e]
    show (timesOk t && !dNil r && rowD r) = if (dSeq r && !dNil r && timesOk t) = true then rowD r else false
    by_cases h : dSeq r = true
    · rw [h]; cases timesOk t <;> cases dNil r <;> simp
    · have h : dSeq r = false := by simpa using h
      rw [rowD_seq h, h]; simp
  · rename_i h1 h2
    have : againD d = false := by
      unfold againD
      split
      · exact absurd rfl (h2 _ _)
      · rfl
    rw [this]
    cases d <;> first | rfl | exact absurd rfl (h1 _)
theorem partsD_eq (xs : List PyData) : partsD xs = xs.all partD := by
  induction xs with
  | nil => rfl
  | cons x xs ih => simp only [partsD, List.all_cons, ih]

def elemsD : PyData → List PyData
  | .list xs => xs
  | .tuple xs => xs
  | _ => []
theorem DD.seq {H : Hp} {x : V} {d : PyData} (h : DD H x d) (k : dSeq d = true) : ∃ a xs, x = .ref a ∧ SqX H a xs ∧ DDs H xs (elemsD d) := by
  cases h with
  | lst ha hs => exact ⟨_, _, rfl, .inl ha, hs⟩
  | tup ha hs => exact ⟨_, _, rfl, .inr ha, hs⟩
  | _ => cases k
theorem rowD_elems {d : PyData} (k : dSeq d = true) : rowD d = partsD (elemsD d) := by
  cases d <;> first | rfl | cases k
theorem dNil_elems {d : PyData} (k : dSeq d = true) : dNil d = (elemsD d).isEmpty := by
  cases d with
  | list xs => cases xs <;> rfl
  | tuple xs => cases xs <;> rfl
  | _ => cases k
theorem SqX.lt {K : PySem.W.Frag} {H : Hp} {a : Addr} {xs : List V} (h : SqX H a xs) : SqL K H a xs ∨ SqT K H a xs := h.imp SqL.of SqT.of

mutual
def wD : PyData → Nat
  | .list xs => 1 + wDs xs
  | .tuple xs => 1 + wDs xs
  | _ => 1
def wDs : List PyData → Nat
  | [] => 0
  | x :: xs => wD x + wDs xs
end
mutual
def okD : PyData → Bool
  | .none => true
  | .bool _ => true
  | .int i => decide (i.natAbs < 10 ^ 40)
  | .str z => decide (z.length ≤ 9) && z.cps.toList.all fun c => decide (c < 16 ^ 8)
  | .list xs => oksD xs
  | .tuple xs => oksD xs
  | .dict kvs => kvs.isEmpty
def oksD : List PyData → Bool
  | [] => true
  | x :: xs => okD x && oksD xs
end
theorem wD_pos (d : PyData) : 1 ≤ wD d := by cases d <;> simp only [wD] <;> omega
theorem wDs_append (xs ys : List PyData) : wDs (xs ++ ys) = wDs xs + wDs ys := by
  induction xs with
  | nil => simp [wDs]
  | cons x xs ih => simp only [List.cons_append, wDs, ih]; omega
theorem oksD_all (xs : List PyData) : oksD xs = xs.all okD := by
  induction xs with
  | nil => rfl
  | cons x xs ih => simp only [oksD, List.all_cons, ih]
theorem oksD_get {xs : List PyData} (h : oksD xs = true) {i : Nat} {d : PyData} (e : xs[i]? = some d) : okD d = true := by
  rw [oksD_all, List.all_eq_true] at h
  exact h d (List.mem_of_getElem? e)
theorem wD_le {xs : List PyData} {i : Nat} {d : PyData} (e : xs[i]? = some d) : wD d ≤ wDs xs := by
  induction xs generalizing i with
  | nil => simp at e
  | cons x xs ih =>
    simp only [wDs]
    cases i with
    | zero => simp at e; subst e; omega
    | succ i => have := ih (i := i) (by simpa using e); omega
theorem len_wDs (xs : List PyData) : xs.length ≤ wDs xs := by
  induction xs with
  | nil => simp [wDs]
  | cons x xs ih => simp only [List.length_cons, wDs]; have := wD_pos x; omega
theorem depth_le {xs : List PyData} {i : Nat} {d : PyData} (e : xs[i]? = some d) : d.depth ≤ PyData.depthAll xs := by
  induction xs generalizing i with
  | nil => simp at e
  | cons x xs ih =>
    simp only [PyData.depthAll]
    cases i with
    | zero => simp at e; subst e; omega
    | succ i => have := ih (i := i) (by simpa using e); omega
mutual
theorem okD_showable : ∀ d : PyData, okD d = true → d.showable = true
  | .none, _ => by simp only [PyData.showable]
  | .bool _, _ => by simp only [PyData.showable]
  | .str _, _ => by simp only [PyData.showable]
  | .int i, h => by
    simp only [okD, decide_eq_true_eq] at h
    simp only [PyData.showable, decide_eq_true_eq]
    exact PySem.Spec.log2_small (Nat.lt_of_lt_of_le h (by decide))
  | .list xs, h => by
    simp only [okD] at h
    simp only [PyData.showable]
    exact oksD_showable xs h
  | .tuple xs, h => by
    simp only [okD] at h
    simp only [PyData.showable]
    exact oksD_showable xs h
  | .dict kvs, h => by
    simp only [okD, List.isEmpty_iff] at h
    subst h
    simp only [PyData.showable, PyData.showableKv]
theorem oksD_showable : ∀ xs : List PyData, oksD xs = true → PyData.showableAll xs = true
  | [], _ => by simp only [PyData.showableAll]
  | x :: xs, h => by
    simp only [oksD, Bool.and_eq_true] at h
    simp only [PyData.showableAll, Bool.and_eq_true]
    exact ⟨okD_showable x h.1, oksD_showable xs h.2⟩
end
theorem int_shown_le {i : Int} (h : i.natAbs < 10 ^ 40) : (PyData.shown (.int i)).length ≤ 50 := by
  have e := int_text_length_le10 (k := 40) (by decide) h
  show (Str.ofString (toString i)).length ≤ 50
  rw [PySem.ofString_length]
  exact Nat.le_trans e (by decide)
mutual
theorem okD_short : ∀ d : PyData, okD d = true → d.leavesShort 50 = true
  | .none, _ => by simp only [PyData.leavesShort]
  | .bool _, _ => by simp only [PyData.leavesShort]
  | .str z, h => by
    simp only [okD, Bool.and_eq_true] at h
    simp only [PyData.leavesShort]
    exact h.2
  | .int i, h => by
    simp only [okD, decide_eq_true_eq] at h
    simp only [PyData.leavesShort, decide_eq_true_eq]
    exact int_shown_le h
  | .list xs, h => by
    simp only [okD] at h
    simp only [PyData.leavesShort]
    exact oksD_short xs h
  | .tuple xs, h => by
    simp only [okD] at h
    simp only [PyData.leavesShort]
    exact oksD_short xs h
  | .dict kvs, h => by
    simp only [okD, List.isEmpty_iff] at h
    subst h
    simp only [PyData.leavesShort, PyData.leavesShortKv]
theorem oksD_short : ∀ xs : List PyData, oksD xs = true → PyData.leavesShortAll 50 xs = true
  | [], _ => by simp only [PyData.leavesShortAll]
  | x :: xs, h => by
    simp only [oksD, Bool.and_eq_true] at h
    simp only [PyData.leavesShortAll, Bool.and_eq_true]
    exact ⟨okD_short x h.1, oksD_short xs h.2⟩
end
mutual
theorem weight_le : ∀ d : PyData, okD d = true → d.weight + 1 ≤ 140 * wD d
  | .none, _ => by simp only [PyData.weight, wD]; omega
  | .bool _, _ => by simp only [PyData.weight, wD]; omega
  | .str z, h => by
    simp only [okD, Bool.and_eq_true, decide_eq_true_eq] at h
    have h1 : z.cps.size ≤ 9 := h.1
    simp only [PyData.weight, wD]; omega
  | .int i, h => by
    simp only [okD, decide_eq_true_eq] at h
    simp only [PyData.weight, wD]
    split
    · omega
    · rename_i h0
      have h1 : i.natAbs ≠ 0 := by
        intro z
        apply h0
        simpa using z
      have h2 : i.natAbs.log2 < 133 := (Nat.log2_lt h1).mpr (Nat.lt_of_lt_of_le h (by decide))
      omega
  | .list xs, h => by
    simp only [okD] at h
    have := weights_le xs h
    simp only [PyData.weight, wD]; omega
  | .tuple xs, h => by
    simp only [okD] at h
    have := weights_le xs h
    simp only [PyData.weight, wD]; omega
  | .dict kvs, h => by
    simp only [okD, List.isEmpty_iff] at h
    subst h
    simp only [PyData.weight, PyData.weightKv, wD]; omega
theorem weights_le : ∀ xs : List PyData, oksD xs = true → PyData.weightAll xs ≤ 140 * wDs xs
  | [], _ => by simp only [PyData.weightAll]; omega
  | x :: xs, h => by
    simp only [oksD, Bool.and_eq_true] at h
    have h1 := weight_le x h.1
    have h2 := weights_le xs h.2
    simp only [PyData.weightAll, wDs]; omega
end
theorem okD_elems {d : PyData} (h : okD d = true) : oksD (elemsD d) = true := by
  cases d <;> first | rfl | (simp only [okD] at h; exact h)
theorem wD_elems (d : PyData) : wDs (elemsD d) ≤ wD d := by
  cases d <;> simp only [elemsD, wD, wDs] <;> omega
theorem depth_elems {d : PyData} (k : dSeq d = true) : d.depth = PyData.depthAll (elemsD d) + 1 := by
  cases d <;> first | (simp only [PyData.depth, elemsD]; done) | cases k
end MC

set_option Elab.async false
set_option linter.all false
set_option maxRecDepth 100000
set_option maxHeartbeats 4000000
namespace MC
open PySem AutoSeq1
theorem enumT_new (l : Addr) (items : Array Value) (n : Nat) (dc : Option Addr) (ss : Array (Option Value)) : Meets (Builtin.«enumerate.__new__» ⟨[.type "enumerate", .ref l], []⟩) (fun _ R s =>
    s.heap.get? l = some { cls := .type "tuple", dict := dc, data := .seq items n, slots := ss } ∧
    R (.ok (.ret (.ref (s.heap.objs.size + 1)))) { s with heap := (s.heap.push { cls := .type "tuple_iterator", data := .fields #[.ref l, .int 0 0] }).push { cls := .type "enumerate", data := .fields #[.none, .bool false, .ref s.heap.objs.size, rawInt 0, .none, .none] } }) :=
  .of_wp fun prog w A R s h => by
    obtain ⟨hp, g, d, tk, os⟩ := s
    obtain ⟨hl, h⟩ := h
    have sub := sub_enumerate
    have hT : Heap.IsTuple (Shared.heap ⟨hp, g, d, tk, os⟩) l items := ⟨_, hl, rfl, n, rfl⟩
    have sz : (hp.push { cls := .type "tuple_iterator", data := .fields #[.ref l, .int 0 0] }).objs.size = hp.objs.size + 1 := Heap.size_push ..
    have h2 := h
    rw [← sz] at h2
    wp_walk using wpAny_loadPart' hl
    refine wpAny_stack_any fun st => wpAny_pure ?_
    split
    · rename_i c _ _ _ _ _
      cases (c == Value.type "enumerate") <;> (wp_walk using wpAny_loadPart' hl, wpAny_pyIter_tuple hT) <;> exact ⟨_, rfl, h2⟩
    · wp_walk using wpAny_loadPart' hl, wpAny_pyIter_tuple hT
      exact ⟨_, rfl, h2⟩
theorem call_enumT {prog : Program} {w : World} {A : Around} {E : Value → Shared → Prop} {s : Shared} {l : Addr} {items : Array Value} {Q : Value → Shared → Prop} (hL : s.heap.IsTuple l items)
    (h : ∀ h', IsEnum h' (s.heap.objs.size + 1) s.heap.objs.size 0 .none → h'.IsTupleIter s.heap.objs.size l 0 → (∀ b o, s.heap.get? b = some o → h'.get? b = some o) →
      Q (.ref (s.heap.objs.size + 1)) { s with heap := h' }) : wpAny (model prog w) A (call (.type "enumerate") [.ref l]) Q E s := by
  obtain ⟨⟨c, dc, dt, ss⟩, hl, hc, n, hd⟩ := hL
  cases (show c = .type "tuple" from hc)
  cases (show dt = .seq items n from hd)
  refine callType_new F.called_enumerate (by decide) (F.typeCall_enumerate_1 _) (F.newCall_enumerate_1 _) (fun ob => F.args_object_init_2 ob _) F.entry_enumerate_new (enumT_new l items n dc ss) ⟨hl, ?_⟩
  have sz : (s.heap.push { cls := .type "tuple_iterator", data := .fields #[.ref l, .int 0 0] }).objs.size = s.heap.objs.size + 1 := Heap.size_push ..
  have top := Heap.get?_push_size (s.heap.push { cls := .type "tuple_iterator", data := .fields #[.ref l, .int 0 0] })
    (o := { cls := .type "enumerate", data := .fields #[.none, .bool false, .ref s.heap.objs.size, rawInt 0, .none, .none] }) rfl
  rw [sz] at top
  exact ⟨⟨_, top, rfl⟩, h _ top ⟨_, Heap.get?_push_of_some _ (Heap.get?_push_size _ rfl), rfl, rfl⟩ fun b o y => Heap.get?_push_of_some _ (Heap.get?_push_of_some _ y)⟩
end MC
namespace MC
open PySem PySem.Spec L2
open PyProof.Rows hiding St
def Iet (K : PySem.W.Frag) (a : Addr) : It :=
  ⟨fun i H => ∃ (ts : List V) (v : V), SqT K H a ts ∧ ts[i]? = some v,
   fun i H u H' => ∃ p v, u = .ref p ∧ H p = none ∧ H' = upd H p (.tup [.int (i : Nat), v]) ∧ ∀ ts, SqT K H a ts → ts[i]? = some v,
   fun i H => ∃ ts : List V, SqT K H a ts ∧ i = ts.length⟩
theorem turn_iet {P : Program} {w : World} {K : PySem.W.Frag} {elts : List Expr} {kk : Nat} {tpos : Pos} {a e it : Addr} (hae : a ≠ it) (hea : e ≠ a) :
    Turn P w K (.Tuple elts kk tpos) (Iet K a) [e, it] e (fun i h => (∃ old, IsEnum h e it ((i : Nat) : Int) old) ∧ h.IsTupleIter it a i ∧ e ≠ it) where
  mem := by simp
  obj := fun i h st b hb => by
    obtain ⟨⟨old, he⟩, ⟨o, ho, hc, hd⟩, _⟩ := st
    simp only [List.mem_cons, List.not_mem_nil, or_false] at hb
    rcases hb with rfl | rfl
    · exact ⟨_, he, fun v q => nomatch q⟩
    · exact ⟨o, ho, fun v q => by rw [hd] at q; cases q⟩
  keep := fun i h h' st k => by
    obtain ⟨⟨old, he⟩, hi, hne⟩ := st
    exact ⟨⟨old, k e (by simp) _ he⟩, hi.at fun o q => k it (by simp) o q, hne⟩
  item := by
    intro X hP hw hK hc i pins s σ H E I hf st hg
    subst hP hw hK
    obtain ⟨⟨old, he⟩, hit, hne⟩ := st
    obtain ⟨ts, v, hq, hv⟩ := hg
    obtain ⟨its, rv, p, hz⟩ := I.tuple hq
    obtain ⟨u, hu, ru⟩ := rv.get hv
    have hel : e < s.heap.objs.size := Heap.lt_size he
    have hil : it < s.heap.objs.size := by obtain ⟨_, q, _⟩ := hit; exact Heap.lt_size q
    have pt : s.heap.IsTuple a its.toArray := p
    refine wpAny_pyNext_enum_itemD (Draws.tuple (A := X.A.in1) (show X.A.in1.handled = none from I.ok.hd hc) it a hae its.toArray) (i := i) he ⟨hit, pt⟩ (by have := (List.getElem?_eq_some_iff.mp hu).1; simpa using this) hne (by simp; exact ⟨hne, hea⟩)
      fun x h' tk hx ho' st' hT hsz hk => ?_
    have ex : x = u := by
      rw [show its.toArray[i]? = some u by simpa using hu] at hx
      exact (Option.some.inj hx).symm
    subst ex
    refine ⟨_, rfl, wpAny_letOwnedTupleGo_enum (s := { s with heap := h', toks := tk + 1 }) ho' fun h'' he' sb => ?_⟩
    have hT2 : h''.get? s.heap.objs.size = some { cls := .type "tuple", data := .seq #[.int i tk, x] } := (sb.2 _ (Nat.ne_of_gt hel)).trans hT
    have nw : ObjOk X.prog X.w (upd H s.heap.objs.size (.tup [.int (i : Nat), v])) h'' s.heap.objs.size (.tup [.int (i : Nat), v]) :=
      ⟨by show 2 ≤ sizeLine; decide, [.int i tk, x], .cons ⟨_, rfl⟩ (.cons ru .nil), ⟨_, hT2, rfl, _, rfl⟩⟩
    have I1 : Inv X pins σ (upd H s.heap.objs.size (.tup [.int (i : Nat), v])) { s with heap := h'', toks := tk + 1 } :=
      I.turnedNew (ch := [e, it]) (fun b ob hb q => (sb.2 b (fun z => hb (by simp [z]))).trans (hk b ob (fun z => hb (by simp [z])) (fun z => hb (by simp [z])) q)) hf (Nat.le_refl _) nw
    refine ⟨.ref s.heap.objs.size, _, I1, rfl, ⟨_, v, rfl, I.hok.fresh (Nat.le_refl _), rfl, fun ys hy => by rw [I.tuple_inj hy hq]; exact hv⟩, ⟨⟨x, ?_⟩, st'.1.at fun o q => (sb.2 it (Ne.symm hne)).trans q, hne⟩, fun b hb => ?_⟩
    · rw [show ((i + 1 : Nat) : Int) = (i : Int) + 1 by omega]; exact he'
    · have hb' : b < s.heap.objs.size := by
        simp only [List.mem_cons, List.not_mem_nil, or_false] at hb
        rcases hb with rfl | rfl
        · exact hel
        · exact hil
      rw [upd_ne (Nat.ne_of_lt hb')]
      exact (hf b hb).1
  done := by
    intro X hP hw hK hc i pins s σ H E I hf st hg
    subst hP hw hK
    obtain ⟨⟨old, he⟩, hit, hne⟩ := st
    obtain ⟨ts, hq, hx⟩ := hg
    obtain ⟨its, rv, p, hz⟩ := I.tuple hq
    obtain ⟨f0, f1, f2, f3, f4, f5⟩ := hf it (by simp)
    have hl := rv.length
    have pt : s.heap.IsTuple a its.toArray := p
    have en : i = its.toArray.size := by simp; omega
    subst en
    refine wpAny_pyNext_enum_endD (Draws.tuple (A := X.A.in1) (show X.A.in1.handled = none from I.ok.hd hc) it a hae its.toArray) he ?_ fun h' eb => ⟨rfl, I.turned (t' := s.toks) (fun b o hb q => eb b o hb q) f0 f1 f3 f4 f5⟩
    exact ⟨hit, pt⟩
  self := fun A i s Q E st h => by
    obtain ⟨⟨_, he⟩, _⟩ := st
    exact wpAny_pyIter_enum he h
def iEnX (K : PySem.W.Frag) (ta : TA) : TI := fun σ H R => ta σ H fun vs H1 => ∃ a, vs = [.ref a] ∧ (((∃ xs, H1 a = some (.lst xs)) ∧ R (Ite K a) H1) ∨ ((∃ xs, H1 a = some (.tup xs)) ∧ R (Iet K a) H1))
theorem pi_enX {X : Cx} {e : Expr} {ta : TA} {p pos tpos : Pos} {elts : List Expr} {kk : Nat} (hg : Gl X "enumerate") (hm : X.mg "enumerate" = none) (ha : PA X [e] ta) (hs : starEach [e] X.env = [(false, eval e X.env)] := by rfl) :
    PI X (.Tuple elts kk tpos) (.Call (.Name "enumerate" p) [e] [] pos) (iEnX X.K ta) := by
  refine ⟨fun pins s σ H R I h => ?_⟩
  refine Call_ (ld_blt I hg hm boot_enumerate (PyProof.Rows.callWith_type1 (thn (ha.run pos pins s σ H _ I h) fun us s1 z => ?_) hs rfl))
  obtain ⟨vs, H1, I1, r1, a, rfl, q⟩ := z
  cases r1 with
  | cons r rr =>
    cases rr
    cases r
    have low : ∀ b ∈ [s1.heap.objs.size + 1, s1.heap.objs.size], FpOk X pins H1 b := fun b hb => by
      have le : s1.heap.objs.size ≤ b := by
        simp only [List.mem_cons, List.not_mem_nil, or_false] at hb
        rcases hb with rfl | rfl <;> omega
      exact I1.fpOk le (I1.hok.fresh le)
    rcases q with ⟨⟨xs, hx⟩, q⟩ | ⟨⟨xs, hx⟩, q⟩
    · obtain ⟨its, rv, p', hz⟩ := I1.list (SqL.of hx)
      refine call_enumerate_list p'.isList fun h' he hit hsz hk => wpAny_pyIter_enum he ?_
      have I2 : Inv X pins σ H1 { s1 with heap := h' } := I1.kept (t' := s1.toks) hk
      exact ⟨_, _, _, _, H1, rfl, I2, turn_enum a _ _, ⟨⟨.none, he⟩, hit, Nat.succ_ne_self _⟩, low, q⟩
    · obtain ⟨its, rv, p', hz⟩ := I1.tuple (SqT.of hx)
      have pt : s1.heap.IsTuple a its.toArray := p'
      have al : a < s1.heap.objs.size := by obtain ⟨_, q, _⟩ := pt; exact Heap.lt_size q
      refine call_enumT pt fun h' he hit hk => wpAny_pyIter_enum he ?_
      have I2 : Inv X pins σ H1 { s1 with heap := h' } := I1.kept (t' := s1.toks) hk
      exact ⟨_, _, _, _, H1, rfl, I2, turn_iet (Nat.ne_of_lt al) (Ne.symm (Nat.ne_of_lt (Nat.lt_succ_of_lt al))), ⟨⟨.none, he⟩, hit, Nat.succ_ne_self _⟩, low, q⟩
end MC

set_option Elab.async false
set_option linter.all false
set_option maxRecDepth 100000
set_option maxHeartbeats 4000000
set_option exponentiation.threshold 20000
namespace VD
open PySem PySem.Spec L2 MC
open PyProof.Rows hiding St

def iSt (p : D → Option (List D)) (da : Ev → Option (D × Ev)) : Ev → Option (List D × Ev) := fun e => match da e with
  | some (x, e1) => match p x with | some ds => some (ds, e1) | none => none
  | none => none
def iStL (p : List D → Option (List D)) (ds : Ev → Option (List D × Ev)) : Ev → Option (List D × Ev) := fun e => match ds e with
  | some (xs, e1) => match p xs with | some ds => some (ds, e1) | none => none
  | none => none
def seqD : D → Option (List D)
  | .lst xs => some xs
  | .tup xs => some xs
  | _ => none
section
variable {K : PySem.W.Frag}
theorem wk_lst {a : Addr} {xs : List V} {ds : List D} : Wk K (Itl K a) [.ref a] [.lst ds] [(a, .lst xs)] ds := by
  have get : ∀ H T, StH K [.ref a] [.lst ds] [(a, .lst xs)] H T → H a = some (.lst xs) ∧ DDs (Res T H) xs ds := fun H T st => by
    obtain ⟨t, ha⟩ := st.2 a _ (List.mem_singleton.mpr rfl)
    obtain ⟨w, e, hw⟩ := st.1.one
    cases e
    have h := hw.dd rfl
    cases h with
    | lst g1 g2 =>
      have := (res_some g1).2
      rw [ha] at this; cases this
      exact ⟨ha, g2⟩
  refine ⟨fun i H T hi st => ?_, fun H T st => ?_, fun i H T x H' hi st y => ?_⟩
  · obtain ⟨h1, h2⟩ := get H T st
    have : i < xs.length := by rw [h2.length]; exact hi
    exact ⟨xs, xs[i], SqL.of h1, List.getElem?_eq_getElem this⟩
  · obtain ⟨h1, h2⟩ := get H T st
    exact ⟨xs, SqL.of h1, by rw [h2.length]; exact Nat.le_refl _⟩
  · obtain ⟨h1, h2⟩ := get H T st
    obtain ⟨rfl, y⟩ := y
    obtain ⟨d, e1, e2⟩ := h2.getV (y xs (SqL.of h1))
    exact ⟨d, e1, T, gr_part (.inr e2)⟩
theorem wk_tup {a : Addr} {xs : List V} {ds : List D} : Wk K (Itt K a) [.ref a] [.tup ds] [(a, .tup xs)] ds := by
  have get : ∀ H T, StH K [.ref a] [.tup ds] [(a, .tup xs)] H T → H a = some (.tup xs) ∧ DDs (Res T H) xs ds := fun H T st => by
    obtain ⟨t, ha⟩ := st.2 a _ (List.mem_singleton.mpr rfl)
    obtain ⟨w, e, hw⟩ := st.1.one
    cases e
    have h := hw.dd rfl
    cases h with
    | tup g1 g2 =>
      have := (res_some g1).2
      rw [ha] at this; cases this
      exact ⟨ha, g2⟩
  refine ⟨fun i H T hi st => ?_, fun H T st => ?_, fun i H T x H' hi st y => ?_⟩
  · obtain ⟨h1, h2⟩ := get H T st
    have : i < xs.length := by rw [h2.length]; exact hi
    exact ⟨xs, xs[i], SqT.of h1, List.getElem?_eq_getElem this⟩
  · obtain ⟨h1, h2⟩ := get H T st
    exact ⟨xs, SqT.of h1, by rw [h2.length]; exact Nat.le_refl _⟩
  · obtain ⟨h1, h2⟩ := get H T st
    obtain ⟨rfl, y⟩ := y
    obtain ⟨d, e1, e2⟩ := h2.getV (y xs (SqT.of h1))
    exact ⟨d, e1, T, gr_part (.inr e2)⟩
def enumD : Nat → List D → List D
  | _, [] => []
  | n, d :: ds => .tup [.int n, d] :: enumD (n + 1) ds
theorem enumD_len : ∀ (n : Nat) (ds : List D), (enumD n ds).length = ds.length
  | _, [] => rfl
  | n, d :: ds => by simp only [enumD, List.length_cons, enumD_len]
theorem enumD_at : ∀ (n : Nat) (ds : List D) (i : Nat) (d : D), ds[i]? = some d → (enumD n ds)[i]? = some (.tup [.int (n + i : Nat), d])
  | _, [], _, _, h => by simp at h
  | n, d0 :: ds, 0, d, h => by simp at h; subst h; rfl
  | n, d0 :: ds, i + 1, d, h => by
    have := enumD_at (n + 1) ds i d (by simpa using h)
    rw [show n + (i + 1) = n + 1 + i by omega]
    simpa [enumD] using this
theorem wk_enum {a : Addr} {xs : List V} {ds : List D} : Wk K (Ite K a) [.ref a] [.lst ds] [(a, .lst xs)] (enumD 0 ds) := by
  have get : ∀ H T, StH K [.ref a] [.lst ds] [(a, .lst xs)] H T → H a = some (.lst xs) ∧ DDs (Res T H) xs ds := fun H T st => by
    obtain ⟨t, ha⟩ := st.2 a _ (List.mem_singleton.mpr rfl)
    obtain ⟨w, e, hw⟩ := st.1.one
    cases e
    have h := hw.dd rfl
    cases h with
    | lst g1 g2 =>
      have := (res_some g1).2
      rw [ha] at this; cases this
      exact ⟨ha, g2⟩
  refine ⟨fun i H T hi st => ?_, fun H T st => ?_, fun i H T x H' hi st y => ?_⟩
  · obtain ⟨h1, h2⟩ := get H T st
    rw [enumD_len] at hi
    have : i < xs.length := by rw [h2.length]; exact hi
    exact ⟨xs, xs[i], SqL.of h1, List.getElem?_eq_getElem this⟩
  · obtain ⟨h1, h2⟩ := get H T st
    exact ⟨xs, SqL.of h1, by have e1 := h2.length; have e2 := enumD_len 0 ds; omega⟩
  · obtain ⟨h1, h2⟩ := get H T st
    obtain ⟨t, y, rfl, hn, rfl, hy⟩ := y
    obtain ⟨d, e1, e2⟩ := h2.getV (hy xs (SqL.of h1))
    have e3 := enumD_at 0 ds i d e1
    simp only [Nat.zero_add] at e3
    exact ⟨_, e3, _, gr_new (K := K) hn (fun _ _ z => nomatch z) fun H' sm hp' => .tup hp' (.cons (.int _) (.cons (e2.mono sm) .nil))⟩
theorem wk_enumT {a : Addr} {xs : List V} {ds : List D} : Wk K (Iet K a) [.ref a] [.tup ds] [(a, .tup xs)] (enumD 0 ds) := by
  have get : ∀ H T, StH K [.ref a] [.tup ds] [(a, .tup xs)] H T → H a = some (.tup xs) ∧ DDs (Res T H) xs ds := fun H T st => by
    obtain ⟨t, ha⟩ := st.2 a _ (List.mem_singleton.mpr rfl)
    obtain ⟨w, e, hw⟩ := st.1.one
    cases e
    have h := hw.dd rfl
    cases h with
    | tup g1 g2 =>
      have := (res_some g1).2
      rw [ha] at this; cases this
      exact ⟨ha, g2⟩
  refine ⟨fun i H T hi st => ?_, fun H T st => ?_, fun i H T x H' hi st y => ?_⟩
  · obtain ⟨h1, h2⟩ := get H T st
    rw [enumD_len] at hi
    have : i < xs.length := by rw [h2.length]; exact hi
    exact ⟨xs, xs[i], SqT.of h1, List.getElem?_eq_getElem this⟩
  · obtain ⟨h1, h2⟩ := get H T st
    exact ⟨xs, SqT.of h1, by have e1 := h2.length; have e2 := enumD_len 0 ds; omega⟩
  · obtain ⟨h1, h2⟩ := get H T st
    obtain ⟨t, y, rfl, hn, rfl, hy⟩ := y
    obtain ⟨d, e1, e2⟩ := h2.getV (hy xs (SqT.of h1))
    have e3 := enumD_at 0 ds i d e1
    simp only [Nat.zero_add] at e3
    exact ⟨_, e3, _, gr_new (K := K) hn (fun _ _ z => nomatch z) fun H' sm hp' => .tup hp' (.cons (.int _) (.cons (e2.mono sm) .nil))⟩
def rangeI (lo c : Int) (n : Nat) : List D := (List.range n).map fun (k : Nat) => D.int (lo + (k : Int) * c)
theorem rangeI_len (lo c : Int) (n : Nat) : (rangeI lo c n).length = n := by unfold rangeI; rw [List.length_map, List.length_range]
theorem rangeI_at {lo c : Int} {n i : Nat} (h : i < n) : (rangeI lo c n)[i]? = some (.int (lo + (i : Int) * c)) := by
  unfold rangeI; rw [List.getElem?_map, List.getElem?_range h]; rfl
theorem wk_rng {lo : Int} {n : Nat} : Wk K (Itr lo n) [] [] [] (rangeI lo 1 n) := by
  refine ⟨fun i H T hi st => by rw [rangeI_len] at hi; exact hi, fun H T st => by rw [rangeI_len]; exact Nat.le_refl _, fun i H T x H' hi st y => ?_⟩
  obtain ⟨rfl, rfl⟩ := y
  rw [rangeI_len] at hi
  refine ⟨_, rangeI_at hi, T, gr_part (.inr ?_)⟩
  rw [Int.mul_one]; exact .int _
theorem wk_rngC {lo c : Int} {n : Nat} : Wk K (Itc lo c n) [] [] [] (rangeI lo c n) := by
  refine ⟨fun i H T hi st => by rw [rangeI_len] at hi; exact hi, fun H T st => by rw [rangeI_len]; exact Nat.le_refl _, fun i H T x H' hi st y => ?_⟩
  obtain ⟨rfl, rfl⟩ := y
  rw [rangeI_len] at hi
  exact ⟨_, rangeI_at hi, T, gr_part (.inr (.int _))⟩
def zipD : List D → List D → List D
  | a :: as, b :: bs => .tup [a, b] :: zipD as bs
  | _, _ => []
end
section
variable {X : Cx} {F : Fx} {R : Rl} {NM : List Nat} {tg a b c : Expr} {es : List Expr} {p pos tpos : Pos} {elts : List Expr} {kk : Nat} {da : Ev → Option (D × Ev)} {ds : Ev → Option (List D × Ev)} {A M : List Nat} {As : List (List Nat)}
theorem vi_seq (h : VE X F R NM a da A M) : VI X F R NM tg a (iSt seqD da) A M := by
  obtain ⟨t, q, s⟩ := h.ex
  refine ⟨_, pi_seq q, fun PH hP σ H e S Rk items e' rr hd q => ?_⟩
  unfold iSt at hd
  split at hd
  · rename_i x e1 hx
    split at hd
    · rename_i ds hz
      cases hd
      refine s PH hP σ H e S _ _ _ rr hx fun v H1 S1 T st1 r1 tm1 => ?_
      unfold seqD at hz
      split at hz
      · cases hz
        have hv := tm1.rv.dd rfl
        cases hv with
        | @lst a xs _ g1 g2 =>
          obtain ⟨t1, t2⟩ := res_some g1
          refine ⟨a, rfl, .inl ⟨⟨xs, t2⟩, q _ [.ref a] [.lst _] [(a, .lst xs)] H1 S1 T st1 r1 ⟨.cons tm1.rv .nil, tm1.thr, tm1.prv, (fun b o z => by cases List.mem_singleton.mp z; exact ⟨t1, t2⟩), (fun b o z => by cases List.mem_singleton.mp z; exact fun _ z => nomatch z)⟩ wk_lst (PopOk.nf fun b o u z => by cases List.mem_singleton.mp z)⟩⟩
      · cases hz
        have hv := tm1.rv.dd rfl
        cases hv with
        | @tup a xs _ g1 g2 =>
          obtain ⟨t1, t2⟩ := res_some g1
          refine ⟨a, rfl, .inr ⟨⟨xs, t2⟩, q _ [.ref a] [.tup _] [(a, .tup xs)] H1 S1 T st1 r1 ⟨.cons tm1.rv .nil, tm1.thr, tm1.prv, (fun b o z => by cases List.mem_singleton.mp z; exact ⟨t1, t2⟩), (fun b o z => by cases List.mem_singleton.mp z; exact fun _ z => nomatch z)⟩ wk_tup (PopOk.nf fun b o u z => by cases List.mem_singleton.mp z)⟩⟩
      · cases hz
    · cases hd
  · cases hd
def enumP : List D → Option (List D) := fun ds => match ds with
  | [.lst xs] => some (enumD 0 xs)
  | [.tup xs] => some (enumD 0 xs)
  | _ => none
theorem vi_enum (hg : Gl X "enumerate") (hm : X.mg "enumerate" = none) (h : VA X F R NM [a] ds As M) (hs : starEach [a] X.env = [(false, eval a X.env)] := by rfl) : VI X F R NM (.Tuple elts kk tpos) (.Call (.Name "enumerate" p) [a] [] pos) (iStL enumP ds) As.flatten M := by
  obtain ⟨t, q, s⟩ := h.ex
  refine ⟨_, pi_enX hg hm q hs, fun PH hP σ H e S Rk items e' rr hd q => ?_⟩
  unfold iStL at hd
  split at hd
  · rename_i xs e1 hx
    split at hd
    · rename_i ds hz
      cases hd
      refine s PH hP σ H e S _ _ _ rr hx fun vs H1 S1 Ts st1 r1 tm1 => ?_
      obtain ⟨k1, k2, k3⟩ := tm1.all
      unfold enumP at hz
      split at hz
      · cases hz
        obtain ⟨v, rfl, hv0⟩ := k1.one
        have hv := hv0.dd rfl
        cases hv with
        | @lst a xs _ g1 g2 =>
          obtain ⟨t1, t2⟩ := res_some g1
          refine ⟨a, rfl, .inl ⟨⟨xs, t2⟩, q _ [.ref a] [.lst _] [(a, .lst xs)] H1 S1 (allT Ts) st1 r1 ⟨.cons hv0 .nil, k2, k3, (fun b o z => by cases List.mem_singleton.mp z; exact ⟨t1, t2⟩), (fun b o z => by cases List.mem_singleton.mp z; exact fun _ z => nomatch z)⟩ wk_enum (PopOk.nf fun b o u z => by cases List.mem_singleton.mp z)⟩⟩
      · cases hz
        obtain ⟨v, rfl, hv0⟩ := k1.one
        have hv := hv0.dd rfl
        cases hv with
        | @tup a xs _ g1 g2 =>
          obtain ⟨t1, t2⟩ := res_some g1
          refine ⟨a, rfl, .inr ⟨⟨xs, t2⟩, q _ [.ref a] [.tup _] [(a, .tup xs)] H1 S1 (allT Ts) st1 r1 ⟨.cons hv0 .nil, k2, k3, (fun b o z => by cases List.mem_singleton.mp z; exact ⟨t1, t2⟩), (fun b o z => by cases List.mem_singleton.mp z; exact fun _ z => nomatch z)⟩ wk_enumT (PopOk.nf fun b o u z => by cases List.mem_singleton.mp z)⟩⟩
      · cases hz
    · cases hd
  · cases hd
def smallB (i : Int) : Bool := decide (-(2 ^ 62) ≤ i) && decide (i < 2 ^ 62)
theorem smallB_out {i : Int} (h : smallB i = true) : -(2 ^ 62) ≤ i ∧ i < 2 ^ 62 := by
  unfold smallB at h
  simpa using h
def rng1P : List D → Option (List D) := fun ds => match ds with
  | [.int j] => if smallB j then some (rangeI 0 1 j.toNat) else none
  | _ => none
def rng3P : List D → Option (List D) := fun ds => match ds with
  | [.int i, .int j, .int c] => if smallB i && smallB j && decide (c = -1) then some (rangeI i (-1) (i - j).toNat) else none
  | _ => none
theorem vi_non {K : PySem.W.Frag} {PH : List Ph} {H H1 : Hp} {S S1 : FPs} {J : It} {items : List D} {Rk : It → Hp → Prop} {σ : St} {e' : Ev} (st1 : Stp M H S H1 S1) (r1 : Rp K F R PH H1 σ e' S1) (w : Wk K J [] [] [] items)
    (q : ∀ J v d ob H' S' T, Stp M H S H' S' → Rp K F R PH H' σ e' S' → Ti K H H' S' ([] : List Nat) v d ob T → Wk K J v d ob items → PopOk F PH ob → Rk J H') : Rk J H1 :=
  q J [] [] [] H1 S1 (fun _ => False) st1 r1 ⟨.nil, (fun b z => z.elim), (fun b z => z.elim), (fun a o z => nomatch z), (fun a o z => nomatch z)⟩ w (PopOk.nf fun b o u z => nomatch z)
theorem vi_range1 (hg : Gl X "range") (hm : X.mg "range" = none) (h : VA X F R NM [a] ds As M) (hs : starEach [a] X.env = [(false, eval a X.env)] := by rfl) : VI X F R NM tg (.Call (.Name "range" p) [a] [] pos) (iStL rng1P ds) [] M := by
  obtain ⟨t, q, s⟩ := h.ex
  refine ⟨_, pi_range1 hg hm q hs, fun PH hP σ H e S Rk items e' rr hd q => ?_⟩
  unfold iStL at hd
  split at hd
  · rename_i xs e1 hx
    split at hd
    · rename_i ds hz
      cases hd
      refine s PH hP σ H e S _ _ _ rr hx fun vs H1 S1 Ts st1 r1 tm1 => ?_
      obtain ⟨k1, k2, k3⟩ := tm1.all
      unfold rng1P at hz
      split at hz
      · split at hz
        · rename_i hsm
          cases hz
          obtain ⟨b1, b2⟩ := smallB_out hsm
          obtain ⟨v, rfl, hv⟩ := k1.one
          exact ⟨_, by rw [hv.int], b1, b2, vi_non st1 r1 wk_rng q⟩
        · cases hz
      · cases hz
    · cases hd
  · cases hd
theorem RVs.int3 {K : PySem.W.Frag} {H : Hp} {vs : List V} {i j k : Int} (h : RVs K H vs [.int i, .int j, .int k]) : vs = [.int i, .int j, .int k] := by
  cases h with | cons h hs => rw [h.int, hs.int2]
theorem vi_range3 (hg : Gl X "range") (hm : X.mg "range" = none) (h : VA X F R NM [a, b, c] ds As M) (hs : starEach [a, b, c] X.env = (false, eval a X.env) :: starEach [b, c] X.env := by rfl) (hs2 : (backTo pos (starEach [b, c] X.env)).any (·.1) = false := by rfl) : VI X F R NM tg (.Call (.Name "range" p) [a, b, c] [] pos) (iStL rng3P ds) [] M := by
  obtain ⟨t, q, s⟩ := h.ex
  refine ⟨_, pi_range3 hg hm q hs hs2, fun PH hP σ H e S Rk items e' rr hd q => ?_⟩
  unfold iStL at hd
  split at hd
  · rename_i xs e1 hx
    split at hd
    · rename_i ds hz
      cases hd
      refine s PH hP σ H e S _ _ _ rr hx fun vs H1 S1 Ts st1 r1 tm1 => ?_
      obtain ⟨k1, k2, k3⟩ := tm1.all
      unfold rng3P at hz
      split at hz
      · split at hz
        · rename_i hsm
          cases hz
          simp only [Bool.and_eq_true, decide_eq_true_eq] at hsm
          obtain ⟨⟨c1, c2⟩, c3⟩ := hsm
          obtain ⟨b1, b2⟩ := smallB_out c1
          obtain ⟨b3, b4⟩ := smallB_out c2
          subst c3
          exact ⟨_, _, _, _, k1.int3, RgC.neg b1 b2 b3 b4, vi_non st1 r1 wk_rngC q⟩
        · cases hz
      · cases hz
    · cases hd
  · cases hd
end
end VD

set_option Elab.async false
set_option linter.all false
set_option maxRecDepth 100000
set_option maxHeartbeats 4000000
namespace VD
open PySem PySem.Spec PyProof.Rows L2 MC
open Builtin Builtin.Str Builtin.Int
def repS (z : Str) (i : Int) : Str := if (i == 1 || z.length == 0) = true then z else ⟨(List.replicate i.toNat z.cps).foldl (· ++ ·) #[]⟩
def rMulS : R2 := fun x y H Q => ∃ (z : Str) (i : Int), x = .str z ∧ y = .int i ∧ 1 ≤ i ∧ i ≤ 1000 ∧ z.length ≤ 1000 ∧ (repS z i).length ≤ sizeLine ∧ Q (.str (repS z i)) H
theorem op_mulS {X : Cx} : OpR X (binaryOp .Mult) rMulS := by
  intro pins s σ H x y v u Q I rx ry h
  obtain ⟨z, i, rfl, rfl, i1, i2, zl, rl, q⟩ := h
  obtain ⟨t, rfl⟩ := rx
  obtain ⟨k, rfl⟩ := ry
  have n1 : ¬ i < 1 := by omega
  have zp : z.length * i.toNat ≤ 1000 * 1000 := Nat.mul_le_mul zl (by omega)
  refine P.mul_str (by rw [decide_eq_false (by omega), decide_eq_false (by omega)]; rfl) (fun _ _ c => ?_) (fun _ _ => ?_) ?_
  · have a2 : (1000 : Int) ≤ (2 ^ 63 - 1) / i := Int.le_ediv_of_mul_le (by omega) (by omega)
    omega
  · unfold tooLong
    exact decide_eq_false (by have := sizeLine_eq; omega)
  · rw [if_neg n1]
    unfold repS at q rl
    by_cases c : (i == 1 || z.length == 0) = true
    · rw [if_pos c] at q ⊢
      exact ⟨.str z, H, I, ⟨t, rfl⟩, q⟩
    · rw [if_neg c] at q rl ⊢
      exact ⟨rl, .str _, H, I.tok _, ⟨_, rfl⟩, q⟩
end VD

set_option Elab.async false
set_option linter.all false
set_option maxRecDepth 100000
set_option maxHeartbeats 4000000
set_option exponentiation.threshold 20000
namespace VD
open PySem PySem.Spec L2 MC
open PyProof.Rows hiding St

def PsM (K : PySem.W.Frag) (r : V → List V → Hp → VK → Prop) (p : D → List D → Option D) : Prop :=
  ∀ (H : Hp) (x : V) (dx : D) (vs : List V) (ds : List D) (d : D) (Q : VK), RV K H x dx → RVs K H vs ds → p dx ds = some d → (∀ v, Sc v d → Q v H) → r x vs H Q
def isStr : D → Bool
  | .str _ => true
  | _ => false
def dM (ok : D → Bool) (p : D → List D → Option D) (da : Ev → Option (D × Ev)) (ds : Ev → Option (List D × Ev)) : Ev → Option (D × Ev) := fun e => match da e with
  | some (x, e1) => if ok x then match ds e1 with
    | some (xs, e2) => match p x xs with | some z => some (z, e2) | none => none
    | none => none else none
  | none => none
section
variable {X : Cx} {F : Fx} {R : Rl} {NM : List Nat} {a b : Expr} {es : List Expr} {apos pos : Pos} {da db : Ev → Option (D × Ev)} {ds : Ev → Option (List D × Ev)} {A A1 A2 M M1 M2 : List Nat} {As : List (List Nat)} {id : String} {name : Str} {r : V → List V → Hp → VK → Prop} {p : D → List D → Option D}
theorem isStr_out {K : PySem.W.Frag} {H : Hp} {v : V} {d : D} (h : RV K H v d) (e : isStr d = true) : ∃ z, v = .str z := by
  cases d <;> first | (cases e; done) | exact ⟨_, h.str⟩
theorem ve_m0 (slot : Slot "str" name id) (hty : typeOf (.builtin id) = pure (.type "method_descriptor")) (hm : MtR X id r) (hp : PsM X.K r p) (h : VE X F R NM a da A M) (hb : attributeBase a name X.env (eval a X.env) = eval a X.env := by rfl) (hl : (apos.endLine == pos.line) = true := by rfl) :
    VE X F R NM (.Call (.Attribute a name apos) [] [] pos) (dM isStr p da aNil) [] M := by
  obtain ⟨t, q, s⟩ := h.ex
  refine ⟨_, pe_m0 slot hty hm q hb hl, fun PH hP σ H e S Q d e' rr hd q => ?_⟩
  unfold dM aNil at hd
  split at hd
  · rename_i x e1 hx
    split at hd
    · rename_i hs
      split at hd
      · rename_i xs e2 hy
        cases hy
        split at hd
        · rename_i z hz
          cases hd
          exact s PH hP σ H e S _ _ _ rr hx fun v H1 S1 T st1 r1 tm1 => ⟨isStr_out tm1.rv hs, hp H1 v _ _ _ _ _ (tm1.rv.mono res_same) .nil hz fun w hw => q w H1 S1 _ st1 r1 hw.tm⟩
        · cases hd
      · cases hd
    · cases hd
  · cases hd
theorem ve_m1 (slot : Slot "str" name id) (hty : typeOf (.builtin id) = pure (.type "method_descriptor")) (hm : MtR X id r) (hp : PsM X.K r p) (h : VE X F R NM a da A1 M1) (h2 : VE X F R NM b db A2 M2) (hs : starEach [b] X.env = [(false, eval b X.env)] := by rfl) (hb : attributeBase a name X.env (eval a X.env) = eval a X.env := by rfl) (hl : (apos.endLine == pos.line) = true := by rfl) :
    VE X F R NM (.Call (.Attribute a name apos) [b] [] pos) (dM isStr p da (aCons db aNil)) [] (M1 ++ M2) := by
  obtain ⟨t, q, s⟩ := h.ex
  obtain ⟨t2, q2, s2⟩ := h2.ex
  refine ⟨_, pe_m1 slot hty hm q q2 hs hb hl, fun PH hP σ H e S Q d e' rr hd q => ?_⟩
  unfold dM at hd
  split at hd
  · rename_i x e1 hx
    split at hd
    · rename_i hs
      split at hd
      · rename_i xs e2 hy
        unfold aCons aNil at hy
        split at hy
        · rename_i y e3 hb
          cases hy
          split at hd
          · rename_i z hz
            cases hd
            refine s PH hP σ H e S _ _ _ rr hx fun v H1 S1 T st1 r1 tm1 => ⟨isStr_out tm1.rv hs, s2 PH hP σ H1 e1 S1 _ _ _ r1 hb fun u H2 S2 U st2 r2 tm2 => ?_⟩
            obtain ⟨zz, rfl⟩ := isStr_out tm1.rv hs
            have rv2 : RV X.K H2 (.str zz) x := by
              cases x with
              | str z0 => have := tm1.rv.str; cases this; exact .inr (.str _)
              | _ => cases hs
            exact hp H2 _ _ _ _ _ _ rv2 (.cons (tm2.rv.mono res_same) .nil) hz fun w hw => q w H2 S2 _ (st1.trans st2) r2 hw.tm
          · cases hd
        · cases hy
      · cases hd
    · cases hd
  · cases hd
end
section
variable {K : PySem.W.Frag}
def rStr0 (g : Str → V) (C : Str → Prop) : V → List V → Hp → VK → Prop := fun x xs H Q => ∃ a, x = V.str a ∧ xs = [] ∧ C a ∧ Q (g a) H
def mStr0 (g : Str → D) (c : Str → Bool) : D → List D → Option D := fun x es => match x, es with
  | .str a, [] => if c a then some (g a) else none
  | _, _ => none
theorem pm_str0 {g : Str → V} {g' : Str → D} {C : Str → Prop} {c : Str → Bool} (hg : ∀ a, Sc (g a) (g' a)) (hc : ∀ a, c a = true → C a) : PsM K (rStr0 g C) (mStr0 g' c) := by
  intro H x dx vs ds d Q hx hs hp q
  unfold mStr0 at hp
  split at hp
  · split at hp
    · cases hp
      cases hs
      exact ⟨_, hx.str, rfl, hc _ (by assumption), q _ (hg _)⟩
    · cases hp
  · cases hp
def mAscii := mStr0 (fun a => .bl (Txt.isascii a)) fun _ => true
def mAlpha := mStr0 (fun a => .bl (Txt.isalpha a)) fun _ => true
def mLower := mStr0 (fun a => .str (Txt.lower a)) fun a => decide (a.length ≤ 5592405)
theorem pm_ascii : PsM K (rStr0 (fun a => .bl (Txt.isascii a)) fun _ => True) mAscii := pm_str0 (fun a => .bl _) fun _ _ => trivial
theorem pm_alpha : PsM K (rStr0 (fun a => .bl (Txt.isalpha a)) fun _ => True) mAlpha := pm_str0 (fun a => .bl _) fun _ _ => trivial
theorem pm_lower : PsM K (rStr0 (fun a => .str (Txt.lower a)) fun a => a.length ≤ 5592405) mLower := pm_str0 (fun a => .str _) fun a h => by simpa using h
def rJoinL (K : PySem.W.Frag) : V → List V → Hp → VK → Prop := fun x xs H Q => ∃ a p ys, x = V.str a ∧ xs = [V.ref p] ∧ (SqL K H p (List.map V.str ys) ∨ SqT K H p (List.map V.str ys)) ∧ (List.map (fun x => x.length) ys).sum + ys.length * a.length ≤ 16777216 ∧ Q (V.str (Txt.join a ys)) H
def rJoinX (K : PySem.W.Frag) : V → List V → Hp → VK → Prop := fun x xs H Q => rJoinL K x xs H Q ∨ rJoinD x xs H Q
theorem mt_joinX {X : Cx} (hc : X.calm = true) : MtR X "str.join" (rJoinX X.K) := fun pins s σ H x xs v us Q I rX rS h => h.elim (fun z => mt_join pins s σ H x xs v us Q I rX rS z) (fun z => mt_joinD hc pins s σ H x xs v us Q I rX rS z)
theorem pm_join : PsM K (rJoinX K) pJoin := by
  intro H x dx vs ds d Q hx hs hp q
  unfold pJoin at hp
  split at hp
  · obtain ⟨ys, h1, h2⟩ := Option.bind_eq_some_iff.mp hp
    split at h2
    · cases h2
      obtain ⟨v, rfl, hv⟩ := hs.one
      obtain ⟨a, kvs, rfl, g1, g2⟩ := hv.dct0
      exact .inr ⟨_, a, kvs, ys, hx.str, rfl, g1, keyStrs_eq h1 g2, by assumption, q _ (.str _)⟩
    · cases h2
  · obtain ⟨ys, h1, h2⟩ := Option.bind_eq_some_iff.mp hp
    split at h2
    · cases h2
      obtain ⟨v, rfl, hv⟩ := hs.one
      have e := strsOf_eq h1
      subst e
      have hv := hv.dd rfl
      cases hv with
      | lst g1 g2 => exact .inl ⟨_, _, ys, hx.str, rfl, .inl (SqL.of (by rw [g1, g2.strs])), by assumption, q _ (.str _)⟩
    · cases h2
  · obtain ⟨ys, h1, h2⟩ := Option.bind_eq_some_iff.mp hp
    split at h2
    · cases h2
      obtain ⟨v, rfl, hv⟩ := hs.one
      have e := strsOf_eq h1
      subst e
      have hv := hv.dd rfl
      cases hv with
      | tup g1 g2 => exact .inl ⟨_, _, ys, hx.str, rfl, .inr (SqT.of (by rw [g1, g2.strs])), by assumption, q _ (.str _)⟩
    · cases h2
  · cases hp
end

section
variable {K : PySem.W.Frag}
def pAddS : D → D → Option D := fun x y => match x, y with
  | .str a, .str b => if a.length + b.length ≤ sizeLine then some (.str (a ++ b)) else none
  | _, _ => none
def rAddS : R2 := fun x y H Q => ∃ i j, x = V.str i ∧ y = V.str j ∧ i.length + j.length ≤ sizeLine ∧ Q (V.str (i ++ j)) H
theorem ps_addS : Ps2 K rAddS pAddS := by
  intro H x y dx dy d Q hx hy hp q
  unfold pAddS at hp
  split at hp
  · split at hp
    · cases hp; exact ⟨_, _, hx.str, hy.str, by assumption, q _ (.str _)⟩
    · cases hp
  · cases hp
def pMulS : D → D → Option D := fun x y => match x, y with
  | .str z, .int i => if decide (1 ≤ i) && decide (i ≤ 1000) && decide (z.length ≤ 1000) && decide ((repS z i).length ≤ sizeLine) then some (.str (repS z i)) else none
  | _, _ => none
theorem ps_mulS : Ps2 K rMulS pMulS := by
  intro H x y dx dy d Q hx hy hp q
  unfold pMulS at hp
  split at hp
  · split at hp
    · rename_i hc
      simp only [Bool.and_eq_true, decide_eq_true_eq] at hc
      cases hp
      exact ⟨_, _, hx.str, hy.int, hc.1.1.1, hc.1.1.2, hc.1.2, hc.2, q _ (.str _)⟩
    · cases hp
  · cases hp
end

def D.truth : D → Option Bool
  | .non => some false
  | .bl b => some b
  | .int i => some (i != 0)
  | .str z => if z.length ≤ sizeLine then some (z.length != 0) else none
  | .lst xs => some !xs.isEmpty
  | .tup xs => some !xs.isEmpty
  | .dct es => some !es.isEmpty
  | .ro ns => some !ns.isEmpty
def rTruX (K : PySem.W.Frag) : V → Hp → (Bool → Hp → Prop) → Prop := fun x H Q => (∃ k, TruV K x H k ∧ Q k H) ∨ ∃ a kvs, x = .ref a ∧ Rd H a (.dK kvs) ∧ Q (!kvs.isEmpty) H
theorem len_empty {α β : Type} {xs : List α} {ys : List β} (h : xs.length = ys.length) : xs.isEmpty = ys.isEmpty := by
  cases xs <;> cases ys <;> first | rfl | cases h
theorem RV.truth {K : PySem.W.Frag} {H : Hp} {v : V} {d : D} {b : Bool} {Q : Bool → Hp → Prop} (h : RV K H v d) (e : d.truth = some b) (q : Q b H) : rTruX K v H Q := by
  cases d with
  | non => rw [h.non]; cases e; exact .inl ⟨_, rfl, q⟩
  | bl b' => rw [h.bl]; cases e; exact .inl ⟨_, rfl, q⟩
  | int i => rw [h.int]; cases e; exact .inl ⟨_, rfl, q⟩
  | str z =>
    rw [h.str]
    have e : (if z.length ≤ sizeLine then some (z.length != 0) else none) = some b := e
    split at e
    · cases e
      refine .inl ⟨_, ⟨by assumption, ?_⟩, q⟩
      have key : ∀ n : Nat, (n != 0) = ((n : Int) != 0) := fun n => by cases n <;> rfl
      exact key z.length
    · cases e
  | lst xs =>
    have h := h.dd rfl
    cases h with
    | lst g1 g2 => cases e; rw [← len_empty g2.length] at q; exact .inl ⟨_, .inl ⟨_, SqL.of g1, rfl⟩, q⟩
  | tup xs =>
    have h := h.dd rfl
    cases h with
    | tup g1 g2 => cases e; rw [← len_empty g2.length] at q; exact .inl ⟨_, .inr (.inl ⟨_, SqT.of g1, rfl⟩), q⟩
  | dct es =>
    obtain ⟨a, kvs, rfl, g1, g2⟩ := h.dct0
    cases e
    rw [← len_empty g2.length] at q
    exact .inr ⟨a, kvs, rfl, g1, q⟩
  | ro ns =>
    rcases h with ⟨a, ns', e1, rfl, h1⟩ | h
    · cases e1; cases e
      have : (!ns.isEmpty) = !(ns.map V.int).isEmpty := by cases ns <;> rfl
      rw [this] at q
      exact .inl ⟨_, .inl ⟨_, h1, rfl⟩, q⟩
    · cases h
def tTru (da : Ev → Option (D × Ev)) : Ev → Option (Bool × Ev) := fun e => match da e with
  | some (x, e') => match x.truth with | some b => some (b, e') | none => none
  | none => none
section
variable {X : Cx} {F : Fx} {R Rb : Rl} {NM : List Nat} {a b c : Expr} {es : List Expr} {p apos pos : Pos} {da db dc : Ev → Option (D × Ev)} {ds : Ev → Option (List D × Ev)} {A A1 A2 A3 M M1 M2 M3 : List Nat} {As : List (List Nat)} {al : List Nat}
def sAug (p : D → D → Option D) (i : Nat) (da : Ev → Option (D × Ev)) : Ev → Option Out := fun e => match e[i]? with
  | some (some x) => match da e with
    | some (y, e') => match p x y with | some z => some (.nx (e'.set i (some z))) | none => none
    | none => none
  | _ => none
def sPar (i j : Nat) (da db : Ev → Option (D × Ev)) : Ev → Option Out := fun e => match da e with
  | some (x, e1) => match db e1 with
    | some (y, e2) => some (.nx ((e2.set i (some x)).set j (some y)))
    | none => none
  | none => none
structure VK2 (X : Cx) (F : Fx) (R : Rl) (NM : List Nat) (kws : List Keyword) (den : Ev → Option (List D × Ev)) (As : List (List Nat)) (M : List Nat) : Prop where
  ex : ∃ t, PK X kws t ∧ SA X.K F R NM t den As M
end
end VD

set_option Elab.async false
set_option linter.all false
set_option maxRecDepth 100000
set_option maxHeartbeats 4000000
set_option exponentiation.threshold 20000
namespace VD
open PySem PySem.Spec L2 MC
open PyProof.Rows hiding St

section
variable {Φ : Around → Prop} {X : Cx} {CX : CXT} {k n : Nat} {f : Addr} {fd : FuncData} {ps ks : List Str} {sp : Sp} {E : XK} {x : Str} {p pos : Pos} {e : Expr} {es : List Expr} {kws : List Keyword} {t tk : TA} {g : List Value → List Value → List Value} {gV : List V → List V → List V}
theorem pe_callNA (hΦ : Φ X.A) (F : FnA Φ X.prog X.w X.K X.mg X.base CX k f fd ps sp) (hr : Room k X.A) (hg : Gl X x) (hm : X.mg x = some (.ref f)) (hk : PySem.W.keepIn X.K (.ref f) = true) (hb : KBn X.K fd ps n ks g gV) (hx : Passes CX X E)
    (ha : PA X (e :: es) t) (hkw : PK X kws tk) (hall : (backToKw pos (keywordEach kws X.env)).all (fun x => x.1.isSome) = true) (hks : (backToKw pos (keywordEach kws X.env)).filterMap (fun x => x.1) = ks) (hdb : (x == ("__debug__" : Str)) = false) (he : starEach (e :: es) X.env = (false, eval e X.env) :: starEach es X.env)
    (hpl : ((backTo pos (starEach (e :: es) X.env)).any (fun x => x.1) || (backToKw pos (keywordEach kws X.env)).any (fun x => x.1.isNone)) = false) :
    PE X (.Call (.Name x p) (e :: es) kws pos) (tCallN n ks.length sp gV E t tk) := by
  constructor
  intro pins s σ H Q I h
  refine wpAny_Call_Name_kw (ld_glob I hg hm ?_ hdb)
  refine PySem.W.callWith_KW (h₀ := X.base) I.ok.mod.kin hk hall (thn (ha.run pos pins s σ H _ I h) fun us s1 ⟨vs, H1, I1, r, q⟩ => thn (hkw.run pos pins s1 σ H1 _ I1 q) fun ws s2 ⟨zs, H2, I2, r2, q2⟩ => ⟨I2.kIn, ?_⟩) hpl he
  obtain ⟨l1, l2, q2⟩ := q2
  have rr := hb.rel r r2
  rw [List.nil_append, hks]
  refine wpAny_call (codeAny_mono (F.run X.A X.stack s2 H2 ⟨us, ks.zip ws⟩ _ _ Q E hΦ hr I2.env0 (hb.to s2 us ws I2.kIn (by rw [← r.length]; exact l1) (by rw [← r2.length]; exact l2)) rr q2) fun z s' hq => ?_)
  match z, hq with
  | .error e', hq => exact hx pins σ H2 s2 e' s' I2 hq
  | .ok (.ret u), hq => exact I2.after hq
  | .ok .next, hq => exact hq.elim
  | .ok .brk, hq => exact hq.elim
  | .ok .cont, hq => exact hq.elim
end

def plan {α : Type} (pl : List (Option Nat)) (xs : List α) (z : α) : List α := pl.map fun o => match o with | some i => xs.getD i z | none => z
theorem plan_vals {pl : List (Option Nat)} {vs : List V} {us : List Value} (r : Vals vs us) : Vals (plan pl vs .non) (plan pl us .none) := by
  unfold plan
  induction pl with
  | nil => exact .nil
  | cons o pl ih =>
    refine .cons ?_ ih
    cases o with
    | none => exact rfl
    | some i =>
      show RelV (vs.getD i .non) (us.getD i .none)
      clear ih
      induction r generalizing i with
      | nil => exact rfl
      | cons h _ ih =>
        cases i with
        | zero => exact h
        | succ i => exact ih i
def tPl (n m : Nat) (pl : List (Option Nat)) (t tk : TA) : TA := fun σ H Q => t σ H fun vs H1 => tk σ H1 fun zs H2 => vs.length = n ∧ zs.length = m ∧ Q (plan pl (vs ++ zs) .non) H2
def aPl (pl : List (Option Nat)) (ds dk : Ev → Option (List D × Ev)) : Ev → Option (List D × Ev) := fun e => match ds e with
  | some (xs, e1) => match dk e1 with
    | some (ys, e2) => some (plan pl (xs ++ ys) .non, e2)
    | none => none
  | none => none
section
variable {K : PySem.W.Frag} {F : Fx} {R : Rl} {NM : List Nat} {Hs H H' : Hp} {S S' : FPs} {As Ak : List (List Nat)} {M1 M2 : List Nat}
theorem TmL.step {PH : List Ph} {σ : St} {e : Ev} {M : List Nat} {vs : List V} {ds : List D} {Ts : List (Addr → Prop)} (t : TmL K Hs H S As vs ds Ts) (r : Rp K F R PH H σ e S) (s : Stp M H S H' S') (c : As.all (fun A => clear R A M) = true) : TmL K Hs H' S' As vs ds Ts := by
  induction t with
  | nil => exact .nil
  | cons h _ ih =>
    rw [List.all_cons, Bool.and_eq_true] at c
    exact .cons (h.step r s c.1) (ih c.2)
theorem TmL.append {vs us : List V} {ds es : List D} {Ts Us : List (Addr → Prop)} (t : TmL K Hs H S As vs ds Ts) (u : TmL K Hs H S Ak us es Us) : TmL K Hs H S (As ++ Ak) (vs ++ us) (ds ++ es) (Ts ++ Us) := by
  induction t with
  | nil => exact u
  | cons h _ ih => exact .cons h ih
theorem TmL.plan {pl : List (Option Nat)} {vs : List V} {ds : List D} {Ts : List (Addr → Prop)} (t : TmL K Hs H S As vs ds Ts) : TmL K Hs H S (plan pl As []) (plan pl vs .non) (plan pl ds .non) (plan pl Ts fun _ => False) := by
  have non : Tm K Hs H S [] .non .non (fun _ => False) := ⟨.inr .non, (fun b z => z.elim), (fun b z => z.elim)⟩
  unfold VD.plan
  induction pl with
  | nil => exact .nil
  | cons o pl ih =>
    refine .cons ?_ ih
    cases o with
    | none => exact non
    | some i =>
      show Tm K Hs H S (As.getD i []) (vs.getD i .non) (ds.getD i .non) (Ts.getD i fun _ => False)
      clear ih
      induction t generalizing i with
      | nil => exact non
      | cons h _ ih =>
        cases i with
        | zero => exact h
        | succ i => exact ih i
theorem plan_at {α : Type} {pl : List (Option Nat)} {xs : List α} {z : α} {j : Nat} : (plan pl xs z)[j]? = pl[j]?.map fun o => match o with | some i => xs.getD i z | none => z := by
  unfold plan; rw [List.getElem?_map]
theorem so_plan {n m : Nat} {pl : List (Option Nat)} {t tk : TA} {ds dk : Ev → Option (List D × Ev)} {Os : List (Option Nat)} (h1 : SO K F R NM t ds As Os M1) (h2 : SA K F R NM tk dk Ak M2) (c : As.all (fun A => clear R A M2) = true) (hn : As.length = n) (hm : Ak.length = m) (hM : ∀ x, some x ∈ Os → x ∉ M2) :
    SO K F R NM (tPl n m pl t tk) (aPl pl ds dk) (plan pl (As ++ Ak) []) (plan pl Os none) (M1 ++ M2) := by
  intro PH hP σ H e S Q xs e' r hd q
  unfold aPl at hd
  split at hd
  · rename_i ys e1 hy
    split at hd
    · rename_i zs e2 hz
      cases hd
      refine h1 PH hP σ H e S _ _ _ r hy fun vs H1 S1 Ts st1 r1 tm1 own => h2 PH hP σ H1 e1 S1 _ _ _ r1 hz fun us H2 S2 Us st2 r2 tm2 => ?_
      have t1 := tm1.step r1 st2 c
      have t2 := tm2.older st1.thr
      have l1 := tm1.len.1
      have l2 := tm2.len.1
      refine ⟨by rw [← l1, hn], by rw [← l2, hm], q _ H2 S2 _ (st1.trans st2) r2 (t1.append t2).plan fun j y hj => ?_⟩
      rw [plan_at] at hj
      obtain ⟨o, hp, hj⟩ := Option.map_eq_some_iff.mp hj
      cases o with
      | none => cases hj
      | some i =>
        have hj : Os.getD i none = some y := hj
        have ho : Os[i]? = some (some y) := by
          rw [List.getD_eq_getElem?_getD] at hj
          cases hq : Os[i]? with
          | none => rw [hq] at hj; cases hj
          | some w => rw [hq] at hj; exact congrArg some hj
        obtain ⟨⟨v, k1, k2⟩, k3⟩ := own i y ho
        have li : i < vs.length := (List.getElem?_eq_some_iff.mp k2).1
        have lt : i < Ts.length := (List.getElem?_eq_some_iff.mp k3).1
        refine ⟨⟨v, k1, ?_⟩, ?_⟩
        · rw [plan_at, hp]
          show some ((vs ++ us).getD i .non) = some v
          rw [List.getD_eq_getElem?_getD, List.getElem?_append_left li, k2]; rfl
        · rw [plan_at, hp]
          show some ((Ts ++ Us).getD i _) = some (S2 y)
          rw [List.getD_eq_getElem?_getD, List.getElem?_append_left lt, k3]
          show some (S1 y) = some (S2 y)
          rw [st2.oth y (hM y (List.mem_of_getElem? ho))]
    · cases hd
  · cases hd
end
section
variable {X : Cx} {F : Fx} {R : Rl} {NM : List Nat} {a : Expr} {es : List Expr} {kws : List Keyword} {pos : Pos} {ds dk : Ev → Option (List D × Ev)} {M M2 : List Nat} {As Ak : List (List Nat)} {Os : List (Option Nat)}
theorem vk_nil : VK2 X F R NM [] aNil [] [] := ⟨_, pk_nil, fun PH hP σ H e S Q ds e' r hd q => by cases hd; exact q [] H S [] Stp.refl r .nil⟩
theorem vk_cons {nm : Option Str} {kpos : Pos} {da : Ev → Option (D × Ev)} {A M1 : List Nat} (h : VE X F R NM a da A M1) (h2 : VK2 X F R NM kws dk Ak M2) (c : clear R A M2 = true := by rfl) : VK2 X F R NM (⟨nm, a, kpos⟩ :: kws) (aCons da dk) (A :: Ak) (M1 ++ M2) := by
  obtain ⟨t1, p1, s1⟩ := h.ex
  obtain ⟨t2, p2, s2⟩ := h2.ex
  refine ⟨_, pk_cons p1 p2, fun PH hP σ H e S Q xs e' r hd q => ?_⟩
  unfold aCons at hd
  split at hd
  · rename_i x e1 hx
    split at hd
    · rename_i ys e2 hy
      cases hd
      refine s1 PH hP σ H e S _ _ _ r hx fun v H1 S1 T st1 r1 tm1 => ?_
      refine s2 PH hP σ H1 _ S1 _ _ _ r1 hy fun vs H2 S2 Ts st2 r2 tm2 => ?_
      exact q (v :: vs) H2 S2 (T :: Ts) (st1.trans st2) r2 (.cons (tm1.step r1 st2 c) (tm2.older st1.thr))
    · cases hd
  · cases hd
def KPl (K : PySem.W.Frag) (fd : FuncData) (ps : List Str) (n : Nat) (ks : List Str) (pl : List (Option Nat)) : Prop :=
  ∀ (s : Shared) (us ws : List Value), K.In s.heap → us.length = n → ws.length = ks.length → BindsTo s fd { pos := us, kw := ks.zip ws } (ps.zip (plan pl (us ++ ws) .none))
theorem ve_callK {x : Str} {p : Pos} {f : Addr} {fd : FuncData} {ps ks : List Str} {k n np : Nat} {G : List D → Option (D × List D)} {mu al : List Nat} (pl : List (Option Nat)) (xs kl : List Nat) (hc : Clean X.A) (FN : FnA Clean X.prog X.w X.K X.mg X.base CX0 k f fd ps (SpD X.K G mu al np)) (hr : Room k X.A) (hg : Gl X x) (hm : X.mg x = some (.ref f))
    (hk : PySem.W.keepIn X.K (.ref f) = true) (hb : KPl X.K fd ps n ks pl) (ha : VO X F R NM (a :: es) ds As Os M) (hkw : VK2 X F R NM kws dk Ak M2) (c : As.all (fun A => clear R A M2) = true := by rfl) (hn : As.length = n := by rfl) (hm2 : Ak.length = ks.length := by rfl) (hM : Os.all (fun o => match o with | some x => !M2.contains x | none => true) = true := by rfl)
    (ok : callOk F NM R mu xs kl al (plan pl (As ++ Ak) []) (plan pl Os none) = true := by rfl) (hnp : (plan pl (As ++ Ak) []).length = np := by rfl)
    (hall : (backToKw pos (keywordEach kws X.env)).all (fun x => x.1.isSome) = true := by rfl) (hks : (backToKw pos (keywordEach kws X.env)).filterMap (fun x => x.1) = ks := by rfl) (hdb : (x == ("__debug__" : Str)) = false := by decide) (he : starEach (a :: es) X.env = (false, eval a X.env) :: starEach es X.env := by rfl)
    (hpl : ((backTo pos (starEach (a :: es) X.env)).any (fun x => x.1) || (backToKw pos (keywordEach kws X.env)).any (fun x => x.1.isNone)) = false := by rfl) :
    VE X F R NM (.Call (.Name x p) (a :: es) kws pos) (dCall G xs kl (aPl pl ds dk)) (pick al (plan pl (As ++ Ak) [])) ((M ++ M2) ++ xs) := by
  obtain ⟨t, q, s⟩ := ha.ex
  obtain ⟨t2, q2, s2⟩ := hkw.ex
  have kb : KBn X.K fd ps n ks (fun us ws => plan pl (us ++ ws) .none) (fun vs zs => plan pl (vs ++ zs) .non) := ⟨hb, fun r1 r2 => plan_vals (Vals.append r1 r2)⟩
  refine ⟨_, pe_callNA hc FN hr hg hm hk kb pass0 q q2 hall hks hdb he hpl, ?_⟩
  have so := so_plan (n := n) (m := ks.length) (pl := pl) s s2 c hn hm2 fun x hx => by
    have := List.all_eq_true.mp hM _ hx
    simpa using this
  have se := se_call (G := G) (E := E0) so ok hnp
  intro PH hP σ H e S Q d e' r hd q
  have := se PH hP σ H e S Q d e' r hd q
  unfold tCall tPl at this
  simp only [List.append_nil] at this
  exact this
end
end VD

set_option Elab.async false
set_option linter.all false
set_option maxRecDepth 100000
set_option maxHeartbeats 4000000
set_option exponentiation.threshold 20000
namespace VD
open PySem PySem.Spec L2 MC
open PyProof.Rows hiding St

section
variable {K : PySem.W.Frag}
end
theorem hu1 {k : Nat} {A : Around} (h : Room k A) : A.units + 1 < cLine := by have := h.un; omega
theorem u64 {k : Nat} {A : Around} (h : Room k A) : A.units + 64 < cLine := by have := h.un; omega
theorem u200 {k : Nat} {A : Around} (h : Room k A) : A.units + 200 < cLine := by have := h.un; omega
theorem vals_nons : ∀ {n : Nat} {ds : List Value}, Vals (List.replicate n V.non) ds → ds = List.replicate n Value.none
  | 0, _, h => by cases h; rfl
  | n + 1, _, h => by
    rw [List.replicate_succ] at h
    cases h with
    | cons h hs =>
      cases h
      rw [List.replicate_succ, ← vals_nons hs]
structure Own (K : PySem.W.Frag) (mg : Str → Option Value) (x : Str) (st : Stmt) (f : Addr) (fd : FuncData) (ps : List Str) : Prop where
  F : Fun K x x st f fd
  m : mg x = some (.ref f)
  b : Binds K fd ps []
def spLaw (K : PySem.W.Frag) : Sp := fun vs H Q _ => ∃ (a : Addr) (ns : List Int), vs = [.ref a] ∧ SqL K H a (ns.map V.int) ∧ ns.length ≤ 63 ∧ ∀ H', Q (.bl true) H'
section
variable {P : Program} {w : World} {K : PySem.W.Frag} {mg : Str → Option Value} {base : Heap} {k : Nat} {f : Addr} {fd : FuncData} {ps : List Str} {G : List D → Option (D × List D)} {al : List Nat}
theorem law_ok (F : FnA Clean P w K mg base CX0 k f fd ps (SpD K G [] al 1)) (hl : ps.length = 1) (h : ∀ ns : List Int, ns.length ≤ 63 → G [.ro ns] = some (.bl true, [])) : FnA Clean P w K mg base CX0 k f fd ps (spLaw K) := by
  have key : ∀ vs H Q E, spLaw K vs H Q E → SpD K G [] al 1 vs H Q E := fun vs H Q E z => by
    obtain ⟨a, ns, rfl, hs, hn, q⟩ := z
    refine ⟨[.ro ns], fun i b => b = a ∧ H b ≠ none, .bl true, [], ⟨rfl, rfl, fun i d hd => ?_, fun i b z => z.2, (fun m hm => nomatch hm), (fun m hm => nomatch hm), (fun m hm => nomatch hm)⟩, h ns hn, fun v H' S' T fc => ?_⟩
    · cases i with
      | zero =>
        cases hd
        refine ⟨.ref a, rfl, .inl ⟨a, ns, rfl, rfl, ?_⟩⟩
        rcases hs with (hs | ⟨o, hs⟩) | hs
        · exact .inl (.inl (by rw [res_in (show a = a ∧ H a ≠ none from ⟨rfl, by rw [hs]; exact fun z => nomatch z⟩)]; exact hs))
        · exact .inl (.inr ⟨o, by rw [res_in (show a = a ∧ H a ≠ none from ⟨rfl, by rw [hs]; exact fun z => nomatch z⟩)]; exact hs⟩)
        · exact .inr hs
      | succ i => simp at hd
    · have := fc.rv.bl
      rw [this]; exact q H'
  exact ⟨fun vs H Q E z => F.len vs H Q E (key vs H Q E z), fun A outer s H args us vs Q E a b c d e z => F.run A outer s H args us vs Q E a b c d e (key vs H Q E z)⟩
end
end VD

set_option Elab.async false
set_option linter.all false
set_option maxRecDepth 100000
set_option maxHeartbeats 4000000
set_option exponentiation.threshold 20000
namespace VD
open PySem PySem.Spec L2 MC
open PyProof.Rows hiding St

def radd (R : Rl) (x : Nat) (A : List Nat) : Rl := R ++ ((A ++ nb R A).filter (· != x)).map fun j => (x, j)
theorem radd_sub {R : Rl} {x : Nat} {A : List Nat} {i j : Nat} (h : rel (radd R x A) i j = false) : rel R i j = false := by
  cases e : rel R i j with
  | false => rfl
  | true =>
    have : rel (radd R x A) i j = true := by
      rw [rel_mem]
      unfold radd
      exact (rel_mem.mp e).imp (List.mem_append_left _) (List.mem_append_left _)
    rw [h] at this; cases this
theorem radd_x {R : Rl} {x : Nat} {A : List Nat} {j : Nat} (hj : j ≠ x) (h : rel (radd R x A) x j = false) : j ∉ A ∧ ∀ a ∈ A, rel R a j = false := by
  have key : ∀ k ∈ A ++ nb R A, k ≠ x → rel (radd R x A) x k = true := fun k hk hi => rel_mem.mpr (.inl (by
    unfold radd
    refine List.mem_append_right _ (List.mem_map.mpr ⟨k, List.mem_filter.mpr ⟨hk, by simpa using hi⟩, rfl⟩)))
  refine ⟨fun z => ?_, fun a ha => ?_⟩
  · have := key j (List.mem_append_left _ z) hj
    rw [h] at this; cases this
  · cases e : rel R a j with
    | false => rfl
    | true =>
      have := key j (List.mem_append.mpr (nb_mem ha e)) hj
      rw [h] at this; cases this
def shareOk (F : Fx) (NM : List Nat) (R : Rl) (x : Nat) (A : List Nat) : Bool := !F.mu.contains x && (A.all fun k => mutOk F NM R k) && clear R A [x]
section
variable {K : PySem.W.Frag} {F : Fx} {R : Rl} {PH : List Ph} {H : Hp} {σ : St} {e : Ev} {S : FPs}
theorem Rp.mutS {Hs : Hp} {x : Nat} {a : Addr} {u u' : HO} {d' : D} {T : Addr → Prop} {A ks : List Nat} (r : Rp K F R PH H σ e S) (h0 : ∀ b, F.H0 b ≠ none → Hs b ≠ none) (ha : σ[x]? = some (some (.ref a))) (hS : S x a) (hu : H a = some u) (hm : ∀ xs, u ≠ .tup xs) (hf : ∀ o w, u' ≠ .frz o w)
    (hT1 : ∀ b, T b → H b ≠ none) (hT2 : ∀ b, T b → Imm H b ∨ (∃ k ∈ A, S k b) ∨ (Hs b = none ∧ (∀ k, ¬ S k b) ∧ NFrz H b)) (hd : RV K (Res (addS S x T x) (upd H a u')) (.ref a) d') (ok : mutOk F (PH.map (·.ix)) R x = true) (hk : killOk F R x ks = true) (hs : shareOk F (PH.map (·.ix)) R x A = true) :
    Rp K F (radd R x A) PH (upd H a u') σ ((killL ks e).set x (some d')) (addS S x T) := by
  unfold shareOk at hs
  simp only [Bool.and_eq_true, Bool.not_eq_true', List.all_eq_true, List.contains_eq_mem, decide_eq_false_iff_not] at hs
  obtain ⟨⟨hxm, hA⟩, hc⟩ := hs
  obtain ⟨m1, m2, m3⟩ := mutOk_out ok
  have na : ¬ Imm H a := fun ⟨xs, z⟩ => by rw [hu] at z; exact hm xs (Option.some.inj z)
  have im : ∀ {b}, Imm H b → Imm (upd H a u') b := fun i => (imm_upd hu hm i).2
  have th : ∀ {b}, H b ≠ none → upd H a u' b ≠ none := fun h => thr_keep h
  have nfa : NFrz (upd H a u') a := fun o w z => by rw [upd_same] at z; exact hf o w (Option.some.inj z)
  have nfk : ∀ {b}, NFrz H b → NFrz (upd H a u') b := fun {b} h => by
    by_cases hb : b = a
    · subst hb; exact nfa
    · exact nfrz_upd h hb
  have h0' : ∀ b, Hs b = none → F.H0 b = none := fun b z => by
    cases w : F.H0 b with
    | none => rfl
    | some y => exact absurd z (h0 b (by rw [w]; exact fun q => nomatch q))
  have keepS : ∀ k, k ≠ x → rel R k x = false → ∀ b o, S k b → H b = some o → upd H a u' b = some o := fun k hk hr b o sb eb => by
    have hb : b ≠ a := fun z => by subst z; exact na (r.dis k x b hk hr sb hS)
    rw [upd_ne hb]; exact eb
  have nl : ∀ k, F.nl ≤ k → k ≠ x := fun k h => by omega
  have ms : ∀ {b}, T b → NFrz H b := fun {b} tb => by
    rcases hT2 b tb with z | ⟨k, hk, z⟩ | z
    · exact z.nfrz
    · exact r.nfz (hA k hk) z
    · exact z.2.2
  have one : ∀ j b, j ≠ x → rel (radd R x A) x j = false → (S x b ∨ T b) → S j b → Imm H b := fun j b hj hr sx sj => by
    rcases sx with sx | tb
    · exact r.dis x j b (Ne.symm hj) (radd_sub hr) sx sj
    · obtain ⟨q1, q2⟩ := radd_x hj hr
      rcases hT2 b tb with z | ⟨k, hk, z⟩ | z
      · exact z
      · exact r.dis k j b (fun w => q1 (w ▸ hk)) (q2 k hk) z sj
      · exact absurd sj (z.2.1 j)
  refine ⟨by rw [List.length_set, killL_len]; exact r.len, r.lenS, fun j d q => ?_, fun i j b h1 h2 h3 h4 => ?_, fun j b q => ?_, fun b o q1 q2 => ?_, fun b q => th (r.dom b q), fun j b q => ?_, fun p hp hpm => ?_, fun j b q => ?_, fun p hp => ?_, r.mup, fun m hm' b q => ?_, fun m hm' b q => .inl (r.mgr m hm' b q), fun k b h1 h2 => by
    have l0 : F.nl ≤ k := by omega
    rw [addS_ne (nl k l0)]; exact r.un k b h1 h2⟩
  · by_cases hj : j = x
    · subst hj
      rw [List.getElem?_set_self (by rw [killL_len, r.len]; exact m1)] at q
      cases q
      exact ⟨_, ha, hd⟩
    · rw [List.getElem?_set_ne (Ne.symm hj)] at q
      obtain ⟨q1, q2⟩ := killL_get q
      obtain ⟨v, q3, q4⟩ := r.rep j d q1
      have hjl : j < F.nl := by rw [← r.len]; exact (List.getElem?_eq_some_iff.mp q1).1
      refine ⟨v, q3, ?_⟩
      rw [addS_ne hj]
      exact q4.mono (res_mono fun b o sb eb => ⟨sb, keepS j hj (by rw [rel_comm]; exact killOk_out hk hjl hj q2) b o sb eb⟩)
  · by_cases hi : i = x
    · subst hi
      rw [addS_eq] at h3
      rw [addS_ne (Ne.symm h1)] at h4
      exact im (one j b (Ne.symm h1) h2 h3 h4)
    · by_cases hj : j = x
      · subst hj
        rw [addS_eq] at h4
        rw [addS_ne hi] at h3
        exact im (one i b hi (by rw [rel_comm]; exact h2) h4 h3)
      · rw [addS_ne hi] at h3; rw [addS_ne hj] at h4
        exact im (r.dis i j b h1 (radd_sub h2) h3 h4)
  · rcases q with q | ⟨_, q⟩
    · exact th (r.thr j b q)
    · exact th (hT1 b q)
  · refine (r.frm b o q1 q2).imp_left fun eb => ?_
    have hb : b ≠ a := fun z => by
      subst z
      rcases r.prv x b hS with z | z | ⟨p, hp, z⟩
      · exact na z
      · rw [q1] at z; cases z
      · by_cases hmu : p ∈ F.mu
        · rcases q2 with k | k
          · exact na (k.imp fun xs q => by rw [q1] at q; cases q; exact eb)
          · exact k p hmu z
        · refine na (r.dis x (F.nl + p) b (by omega) (m2 p hp hmu) hS ?_)
          rw [r.phm p hp hmu]; exact z
    rw [upd_ne hb]; exact eb
  · rcases q with q | ⟨_, q⟩
    · exact (r.prv j b q).imp_left im
    · rcases hT2 b q with z | ⟨k, hk, z⟩ | z
      · exact .inl (im z)
      · exact (r.prv k b z).imp_left im
      · exact .inr (.inl (h0' b z.1))
  · rw [addS_ne (nl _ (by omega))]; exact r.phm p hp hpm
  · have up : NFrz H b ∨ (∃ p, p < F.np ∧ p ∉ F.mu ∧ S (F.nl + p) b) ∨ (∃ p ∈ PH, ∃ o u, (b, HO.frz o u) ∈ p.ob) → NFrz (upd H a u') b ∨ (∃ p, p < F.np ∧ p ∉ F.mu ∧ addS S x T (F.nl + p) b) ∨ (∃ p ∈ PH, ∃ o u, (b, HO.frz o u) ∈ p.ob) := fun z =>
      z.imp nfk (Or.imp_left fun ⟨p, hp, hpm, w⟩ => ⟨p, hp, hpm, .inl w⟩)
    rcases q with q | ⟨_, q⟩
    · exact up (r.fz j b q)
    · exact .inl (nfk (ms q))
  · obtain ⟨l, q1, q2⟩ := r.ph p hp
    have hr : rel R p.ix x = false := by rw [rel_comm]; exact m3 p hp
    have hn : p.ix ≠ x := nl _ (by omega)
    refine ⟨l, ?_, fun b o z => ⟨.inl (q2 b o z).1, keepS p.ix hn hr b o (q2 b o z).1 (q2 b o z).2⟩⟩
    rw [addS_ne hn]
    exact q1.mono (res_mono fun b o sb eb => ⟨sb, keepS p.ix hn hr b o sb eb⟩)
  · have hne : m ≠ x := fun z => hxm (z ▸ hm')
    rw [addS_ne hne] at q
    exact (r.mus m hm' b q).imp_left im
end
section
variable {X : Cx} {F : Fx} {R Rb : Rl} {NM : List Nat} {a b c : Expr} {p1 p2 apos pos epos : Pos} {da db dc : Ev → Option (D × Ev)} {A A1 A2 M M1 M2 : List Nat} {al : List Nat}
theorem mutS_end {K : PySem.W.Frag} {PH : List Ph} {Hs H : Hp} {σ : St} {e : Ev} {S : FPs} {x : Nat} {ad : Addr} {o o' : HO} {d : D} {T : Addr → Prop} {ks : List Nat} {Q : Hp → Prop} (r : Rp K F R PH H σ e S) (ok : mutOk F (PH.map (·.ix)) R x = true) (hk : killOk F R x ks = true) (hs : shareOk F (PH.map (·.ix)) R x A = true) (ha : σ[x]? = some (some (.ref ad))) (hS : S x ad) (hu : H ad = some o)
    (hn : ∀ xs, o ≠ .tup xs) (hf : ∀ y u, o' ≠ .frz y u) (hT1 : ∀ b, T b → H b ≠ none) (hT2 : ∀ b, T b → Imm H b ∨ (∃ k ∈ A, S k b) ∨ (Hs b = none ∧ (∀ k, ¬ S k b) ∧ NFrz H b)) (hT0 : ∀ b, F.H0 b ≠ none → Hs b ≠ none) (hd : DD (Res (fun b => S x b ∨ T b) (upd H ad o')) (.ref ad) d)
    (q : ∀ H' S', Rp K F (radd R x A) PH H' σ ((killL ks e).set x (some d)) S' → Q H') : Q (upd H ad o') :=
  q _ _ (r.mutS hT0 ha hS hu hn hf hT1 hT2 (.inr (by rw [addS_eq]; exact hd)) ok hk hs)
theorem T_out {K : PySem.W.Frag} {PH : List Ph} {Hs H : Hp} {σ : St} {e : Ev} {S : FPs} {x : Nat} {ad : Addr} {o : HO} {T : Addr → Prop} (r : Rp K F R PH H σ e S) (hc : clear R A [x] = true) (hS : S x ad) (hu : H ad = some o) (hn : ∀ xs, o ≠ .tup xs) (hT2 : ∀ b, T b → Imm H b ∨ (∃ k ∈ A, S k b) ∨ (Hs b = none ∧ (∀ k, ¬ S k b) ∧ NFrz H b)) : ¬ T ad := fun z => by
  have na : ¬ Imm H ad := fun ⟨xs, z⟩ => by rw [hu] at z; exact hn xs (Option.some.inj z)
  rcases hT2 ad z with w | ⟨k, hk, w⟩ | w
  · exact na w
  · obtain ⟨c1, c2⟩ := clear_ne hc hk (List.mem_singleton.mpr rfl)
    exact na (r.dis k x ad c1 c2 w hS)
  · exact w.2.1 x hS
def sAppS (x : Nat) (ks : List Nat) (da : Ev → Option (D × Ev)) : Ev → Option Out := fun e => match e[x]? with
  | some (some (.lst _)) => match da e with
    | some (v, e1) => match e1[x]? with
      | some (some (.lst xs)) => if !isRo v && decide (xs.length < sizeLine) then some (.nx ((killL ks e1).set x (some (.lst (xs ++ [v]))))) else none
      | _ => none
    | none => none
  | _ => none
theorem vs_appendS (x : Nat) (ks : List Nat) {y : Str} (h : VE X F R NM a da A M) (ok : mutOk F NM R x = true := by rfl) (hk : killOk F R x ks = true := by rfl) (hsh : shareOk F NM R x A = true := by rfl) (hN : X.N[x]? = some y := by rfl) (hv : Vis X.env.scope y := by first | exact Or.inl rfl | exact Or.inr (Or.inl rfl) | exact Or.inr (Or.inr rfl)) (hd : (y == ("__debug__" : Str)) = false := by decide) (hcd : (y == ("__classdict__" : Str)) = false := by decide)
    (hbase : attributeBase (.Name y p1) "append" X.env (eval (.Name y p1) X.env) = eval (.Name y p1) X.env := by rfl)
    (hfew : ((backTo pos (starEach (a :: []) X.env)).all (fun x => !x.1) && (backToKw pos (keywordEach [] X.env)).all (fun x => x.1.isSome)
      && decide ((a :: []).length + ([] : List Keyword).length + (if ([] : List Keyword).isEmpty then 0 else 1) < 30)) = true := by rfl)
    (hline : (apos.endLine == pos.line) = true := by rfl) (hs : starEach (a :: []) X.env = (false, eval a X.env) :: starEach [] X.env := by rfl) (hplain : (backTo pos (starEach [] X.env)).any (·.1) = false := by rfl)
    (hsw : swapsWith (.Call (.Attribute (.Name y p1) "append" apos) [a] [] pos) none epos.line X.env = pure false := by rfl) :
    VS X F R NM (radd R x A) Rb al (.Expr (.Call (.Attribute (.Name y p1) "append" apos) [a] [] pos) epos) (sAppS x ks da) := by
  obtain ⟨t, q, s⟩ := h.ex
  refine ⟨_, ps_expr (pe_bm PySem.F.plainAttrs_list PySem.F.slot_list_append PySem.F.type_list_append mt_append (pe_var hN hv hd hcd) (pa_cons q pa_nil hs) hbase hfew hline hs hplain) hsw, fun PH hP σ H e S D o r hd q => ?_⟩
  subst hP
  unfold sAppS at hd
  split at hd
  · rename_i xs0 hx0
    split at hd
    · rename_i v e1 hv1
      split at hd
      · rename_i xs hx
        split at hd
        · rename_i hro
          simp only [Bool.and_eq_true, Bool.not_eq_true', decide_eq_true_eq] at hro
          cases hd
          obtain ⟨ad0, ws0, g0, k2, k3, _⟩ := r.ownL ok hx0
          refine ⟨.ref ad0, g0, .inl ⟨rfl, _, SqL.of k3⟩, s PH rfl σ H e S _ _ _ r hv1 fun v1 H1 S1 T st1 r1 tm1 => ?_⟩
          obtain ⟨ad, ws, g1, g2, g3, g4⟩ := r1.ownL ok hx
          rw [g0] at g1; cases g1
          refine ⟨ad0, ws, v1, rfl, rfl, g3, by rw [g4.length]; exact hro.2, ?_⟩
          have hc : clear R A [x] = true := by
            unfold shareOk at hsh
            simp only [Bool.and_eq_true] at hsh
            exact hsh.2
          have nT := T_out r1 hc g2 g3 (fun _ z => nomatch z) tm1.prv
          have nta : ∀ b, ((S1 x b ∧ b ≠ ad0) ∨ T b) → b ≠ ad0 ∧ (S1 x b ∨ T b) := fun b w => by
            rcases w with w | w
            · exact ⟨w.2, .inl w.1⟩
            · exact ⟨fun z => nT (z ▸ w), .inr w⟩
          refine mutS_end (Q := fun H' => D.nx σ H') (T := T) (o' := .lst (ws ++ [v1])) (d := .lst (xs ++ [v])) r1 ok hk hsh g0 g2 g3 (fun _ z => nomatch z) (fun _ _ z => nomatch z) tm1.thr tm1.prv r.dom ?_ fun H' S' r' => q σ H' S' r'
          refine .lst (by rw [res_in (show S1 x ad0 ∨ T ad0 from .inl g2)]; exact upd_same) ?_
          exact ((g4.mono (res_up fun b z => .inl z)).append (.cons ((tm1.rv.dd hro.1).mono (res_up fun b z => .inr z)) .nil)).mono (items_upd' nta)
        · cases hd
      · cases hd
    · cases hd
  · cases hd
end
end VD

set_option Elab.async false
set_option linter.all false
set_option maxRecDepth 100000
set_option maxHeartbeats 4000000
set_option exponentiation.threshold 20000
namespace Sh
open PySem PySem.Spec L2 MC VD
open PyProof.Rows hiding St
noncomputable def body_is_whole : Ev → Option Out := (sRt (vAndD (d1 (pIsi "int") (dVar 0)) (vNotD (d1 (pIsi "bool") (dVar 0)))))
noncomputable def den_is_whole : List D → Option (D × List D) := dFn 1 [] body_is_whole
noncomputable def body_are_small : Ev → Option Out := (sRt (vOrD (d2 pEqS (dVar 0) (dC (.str ("" : Str)))) (vAndD (dM isStr mAscii (dVar 0) aNil) (vAndD (dM isStr mAlpha (dVar 0) aNil) (d2 pEqS (dVar 0) (dM isStr mLower (dVar 0) aNil))))))
noncomputable def den_are_small : List D → Option (D × List D) := dFn 1 [] body_are_small
noncomputable def bd_lowest_of_1 : Ev → Option Out := (sSeq (sIf (tOrD (tNotD (dBool (d1 (pIsi "str") (dVar 2)))) (dBool (d2 pGt (dL pLen (aCons (dVar 2) aNil)) (dC (.int 8)))))
    sNo
    sNil)
    (sSeq (sIf (tOrD (tNotD (dBool (d1 (pIsi "int") (dVar 3)))) (tOrD (dBool (d2 pIsB (dVar 3) (dC (.bl true)))) (dBool (d2 pIsB (dVar 3) (dC (.bl false))))))
    sNo
    sNil)
    (sIf (dBool (d2 pLt (dVar 3) (dVar 1)))
    (sSet 1 (dFl (dVar 3)))
    sNil)))
noncomputable def body_lowest_of : Ev → Option Out := (sSeq (sIf (tNotD (dBool (d1 (pIsi "dict") (dVar 0))))
    sNo
    sNil)
    (sSeq (sSet 1 (dC (.int 0)))
    (sSeq (sFor (dKd 0 (fun es => es.map fun e => .tup [kD e.1, e.2])) (bFl true (bTup 2 (bCons (bName 2) (bCons (bName 3) bNil)))) bd_lowest_of_1)
    (sRt (dFl (dIf (tAndD (dBool (d2 (pDIn true) (dC (.str ("" : Str))) (dVar 0))) (dBool (dCall (Sh.den_are_small) [] [] (aCons (dM isStr pJoin (dC (.str ("" : Str))) (aCons (dVar 0) aNil)) aNil)))) (dVar 1) (dC .non)))))))
noncomputable def den_lowest_of : List D → Option (D × List D) := dFn 4 [] body_lowest_of
noncomputable def body_with_lowest : Ev → Option Out := (sSeq (sIf (dBool (d2 pIsN (dVar 0) (dC .non)))
    (sRt (dTup (aCons (dC (.dct [])) (aCons (dC (.int 0)) aNil))))
    sNil)
    (sSeq (sSet 1 (dCall (Sh.den_lowest_of) [] [] (aCons (dVar 0) aNil)))
    (sSeq (sIf (dBool (d2 pIsN (dVar 1) (dC .non)))
    sNo
    sNil)
    (sRt (dTup (aCons (dVar 0) (aCons (dFl (dVar 1)) aNil)))))))
noncomputable def den_with_lowest : List D → Option (D × List D) := dFn 2 [] body_with_lowest
noncomputable def body_checked_graces : Ev → Option Out := (sSeq (sAsg (dCall (Sh.den_with_lowest) [] [] (aCons (dVar 0) aNil)) (bTup 2 (bCons (bName 1) (bCons (bName 2) bNil))))
    (sRt (dVar 1)))
noncomputable def den_checked_graces : List D → Option (D × List D) := dFn 3 [] body_checked_graces
end Sh

set_option Elab.async false
set_option linter.all false
set_option maxRecDepth 100000
set_option maxHeartbeats 4000000
set_option exponentiation.threshold 20000
namespace VD
open PySem PySem.Spec L2 MC
open PyProof.Rows hiding St

def IntKs (ks : List (Key × V)) : Prop := ∀ p ∈ ks, ∃ i, p.2 = V.int i
theorem IntKs.val {ks : List (Key × V)} (h : IntKs ks) {k : Key} {v : V} (e : valV ks k = some v) : ∃ i, v = V.int i := by
  unfold valV at e
  obtain ⟨p, h1, rfl⟩ := Option.map_eq_some_iff.mp e
  exact h p (List.mem_of_find?_eq_some h1)
def hitB (ls : List (Key × V)) (p : Key × V) : Bool := decide (valV ls p.1 = some p.2)
theorem eqAt_ints {A : Around} {s : Shared} {i j : Int} {u u' : Value} (r : RelV (.int i) u) (r' : RelV (.int j) u') : SeqAt.EqAt A s u u' (i == j) := by
  obtain ⟨t, rfl⟩ := (show ∃ t, u = Value.int i t from r)
  obtain ⟨t', rfl⟩ := (show ∃ t, u' = Value.int j t from r')
  exact SeqAt.EqAt.int_int (A := A) (s := s) i t j t'
theorem hits_int {A : Around} {s : Shared} {ls : List (Key × V)} {vb : List (Key × Value)} (rb : KV ls vb) (hb : IntKs ls) {ks : List (Key × V)} {va : List (Key × Value)} (ra : KV ks va) : IntKs ks → PySem.W.KeqHits A s vb va (ks.all (hitB ls)) := by
  unfold KV at ra
  induction ra with
  | nil => intro _; exact .nil
  | @cons p q ps qs h t ih =>
    intro hp
    obtain ⟨h1, h2⟩ := h
    obtain ⟨k, v⟩ := q
    have h1' : p.1 = k := h1
    have ih' := ih fun p' hm => hp p' (List.mem_cons_of_mem _ hm)
    obtain ⟨i, hi⟩ := hp p List.mem_cons_self
    rw [List.all_cons]
    cases e : valV ls p.1 with
    | none =>
      have rr : RelO (none : Option V) (valueAt vb p.1) := by rw [← e]; exact rb.val p.1
      have hn : valueAt vb k = none := by
        rw [← h1']
        cases hv : valueAt vb p.1 with
        | none => rfl
        | some y => rw [hv] at rr; exact rr.elim
      have : hitB ls p = false := by unfold hitB; rw [e]; exact decide_eq_false (fun z => nomatch z)
      rw [this, Bool.false_and]
      exact .miss hn
    | some w =>
      obtain ⟨j, rfl⟩ := hb.val e
      have rr : RelO (some (V.int j)) (valueAt vb p.1) := by rw [← e]; exact rb.val p.1
      obtain ⟨y, hy, ry⟩ := rr.some_of
      rw [h1'] at hy
      have : hitB ls p = (i == j) := by
        unfold hitB; rw [e, hi]
        by_cases hij : j = i
        · subst hij; simp
        · rw [decide_eq_false (fun z => hij (by cases z; rfl))]
          symm; simpa using fun z : i = j => hij z.symm
      rw [this]
      rw [hi] at h2
      exact .hit hy (eqAt_ints h2 ry) ih'
def rEqK (neg : Bool) : R2 := fun x y H Q => ∃ a b ks ls, x = .ref a ∧ y = .ref b ∧ Rd H a (.dK ks) ∧ Rd H b (.dK ls) ∧ IntKs ks ∧ IntKs ls ∧ Q (.bl (xor neg (decide (ks.length = ls.length) && ks.all (hitB ls)))) H
section
variable {X : Cx}
theorem op_neK (hu : X.A.units < cLine) : OpR X (compareOp .NotEq) (rEqK true) := by
  intro pins s σ H x y v u Q I rx ry h
  obtain ⟨a, b, ks, ls, rfl, rfl, ea, eb, ka, kb, q⟩ := h
  obtain rfl : v = Value.ref a := rx
  obtain rfl : u = Value.ref b := ry
  obtain ⟨_, ya, va, ra, da⟩ := dk_rd I.hok ea
  obtain ⟨_, yb, vb, rb, db⟩ := dk_rd I.hok eb
  refine PySem.W.keq_ne (knd := mixKind X.prog X.w) (r := ks.all (hitB ls)) ya yb da db hu (fun _ => hits_int rb kb ra ka) (fin_bl I q ?_)
  rw [Bool.true_xor, ← ra.length, ← rb.length]
  congr 2
end
def intKs : List (Key × D) → Bool
  | [] => true
  | (_, .int _) :: r => intKs r
  | _ => false
def hitD (fs : List (Key × D)) (e : Key × D) : Bool := match e.2, lookD fs e.1 with | .int i, some (.int j) => decide (i = j) | _, _ => false
def eqK (es fs : List (Key × D)) : Bool := decide (es.length = fs.length) && es.all (hitD fs)
def pEqK (neg : Bool) : D → D → Option D := fun x y => match x, y with
  | .dct es, .dct fs => if intKs es && intKs fs then some (.bl (xor neg (eqK es fs))) else none
  | _, _ => none
theorem intKs_mem {es : List (Key × D)} (h : intKs es = true) : ∀ e ∈ es, ∃ i, e.2 = D.int i := by
  induction es with
  | nil => intro e he; cases he
  | cons e es ih =>
    obtain ⟨k, d⟩ := e
    cases d <;> simp only [intKs, Bool.false_eq_true] at h
    rename_i i
    intro e he
    rcases List.mem_cons.mp he with rfl | he
    · exact ⟨i, rfl⟩
    · exact ih h e he
theorem DKs.ints {H : Hp} : ∀ {kvs : List (Key × V)} {es : List (Key × D)}, DKs H kvs es → intKs es = true → IntKs kvs
  | _, _, .nil, _ => fun p hp => nomatch hp
  | _, _, @DKs.cons _ k v vs d ds hd hs, hi => by
    cases d <;> simp only [intKs, Bool.false_eq_true] at hi
    cases hd
    intro p hp
    rcases List.mem_cons.mp hp with rfl | hp
    · exact ⟨_, rfl⟩
    · exact DKs.ints hs hi p hp
theorem DKs.hits {H : Hp} {ls : List (Key × V)} {fs : List (Key × D)} (h' : DKs H ls fs) (hf : intKs fs = true) : ∀ {kvs : List (Key × V)} {es : List (Key × D)}, DKs H kvs es → intKs es = true → kvs.all (hitB ls) = es.all (hitD fs)
  | _, _, .nil, _ => rfl
  | _, _, @DKs.cons _ k v vs d ds hd hs, hi => by
    cases d <;> simp only [intKs, Bool.false_eq_true] at hi
    rename_i i
    cases hd
    rw [List.all_cons, List.all_cons, DKs.hits h' hf hs hi]
    congr 1
    unfold hitB hitD
    rcases h'.look k with ⟨v, d', w1, w2, w3⟩ | ⟨w1, w2⟩
    · obtain ⟨j, hj⟩ : ∃ j, d' = D.int j := by
        unfold lookD at w2
        obtain ⟨p, h1, rfl⟩ := Option.map_eq_some_iff.mp w2
        exact intKs_mem hf p (List.mem_of_find?_eq_some h1)
      subst hj
      cases w3
      simp only [w1, w2]
      by_cases e : j = i
      · subst e; simp
      · rw [decide_eq_false (fun z => e (by cases z; rfl)), decide_eq_false (fun z => e z.symm)]
    · simp only [w1, w2]
      exact decide_eq_false (fun z => nomatch z)
section
variable {K : PySem.W.Frag}
theorem ps_eqK {neg : Bool} : Ps2 K (rEqK neg) (pEqK neg) := by
  intro H x y dx dy d Q hx hy hp q
  unfold pEqK at hp
  split at hp
  · rename_i es fs
    split at hp
    · rename_i hc
      rw [Bool.and_eq_true] at hc
      cases hp
      obtain ⟨a, ks, rfl, h3, h4⟩ := hx.dct0
      obtain ⟨b, ls, rfl, h5, h6⟩ := hy.dct0
      refine ⟨a, b, ks, ls, rfl, rfl, h3, h5, h4.ints hc.1, h6.ints hc.2, ?_⟩
      have : (decide (ks.length = ls.length) && ks.all (hitB ls)) = eqK es fs := by unfold eqK; rw [h4.length, h6.length, DKs.hits h6 hc.2 h4 hc.1]
      rw [this]; exact q _ (.bl _)
    · cases hp
  · cases hp
end
theorem hu0 {k : Nat} {A : Around} (h : Room k A) : A.units < cLine := by have := h.un; omega
end VD

set_option Elab.async false
set_option linter.all false
set_option maxRecDepth 100000
set_option maxHeartbeats 4000000
set_option exponentiation.threshold 20000
namespace VD
open PySem PySem.Spec L2 MC
open PyProof.Rows hiding St

section
variable {X : Cx} {F : Fx} {R Rb : Rl} {NM : List Nat} {a b c : Expr} {p1 p2 p3 p4 p5 pos : Pos} {da di dj : Ev → Option (D × Ev)} {A A1 A2 M M1 M2 : List Nat} {al : List Nat}
end
end VD

set_option Elab.async false
set_option linter.all false
set_option maxRecDepth 100000
set_option maxHeartbeats 4000000
set_option exponentiation.threshold 20000
namespace VD
open PySem PySem.Spec L2 MC
open PyProof.Rows hiding St
section
variable {X : Cx}
end
end VD

set_option Elab.async false
set_option linter.all false
set_option maxRecDepth 100000
set_option maxHeartbeats 4000000
namespace MC
open PySem PySem.Spec L2
open PyProof.Rows hiding St
theorem low_tab : ∀ c < 128, (Unicode.isAlpha c && (Unicode.lowerOf c == [c])) = isSign c := by decide +kernel
theorem low_one : ∀ c < 128, (Unicode.lowerOf c).length = 1 := by decide +kernel
theorem lowerAt_ascii {s : Array Nat} {i c : Nat} (h : s[i]? = some c) (hc : c < 128) : Unicode.lowerAt s i = Unicode.lowerOf c := by
  unfold Unicode.lowerAt
  rw [h]
  have : (c == 0x3A3) = false := by simp; omega
  simp [this]
theorem lower_list (x : Str) (h : Txt.isascii x = true) : (Txt.lower x).cps.toList = x.cps.toList.flatMap Unicode.lowerOf := by
  have hh : ∀ (i : Nat) (c : Nat), x.cps[i]? = some c → c < 128 := by
    intro i c e
    unfold Txt.isascii at h
    rw [Array.all_eq_true'] at h
    have := h c (Array.mem_of_getElem? e)
    simpa using this
  show (placed x fun i _ => Unicode.lowerAt x.cps i).toList = _
  unfold placed
  rw [Array.toList_flatten, Array.toList_mapIdx, List.flatMap_def]
  congr 1
  apply List.ext_getElem
  · simp
  · intro n h1 h2
    simp at h1 h2 ⊢
    exact lowerAt_ascii (by simp [h1]) (hh n _ (by simp [h1]))
theorem flat_eq (l : List Nat) (h : ∀ c ∈ l, (Unicode.lowerOf c).length = 1) : l.flatMap Unicode.lowerOf = l ↔ ∀ c ∈ l, Unicode.lowerOf c = [c] := by
  induction l with
  | nil => simp
  | cons c l ih =>
    have h1 := h c (by simp)
    obtain ⟨d, hd⟩ := List.length_eq_one_iff.mp h1
    rw [List.flatMap_cons, hd]
    have ih := ih fun c hc => h c (by simp [hc])
    simp [ih, hd]
theorem small_look (x : Str) : (decide (x = Str.empty) || (Txt.isascii x && (Txt.isalpha x && decide (x = Txt.lower x)))) = x.cps.toList.all isSign := by
  have ext : ∀ a b : Str, a.cps.toList = b.cps.toList → a = b := by
    rintro ⟨a⟩ ⟨b⟩ h
    simp only [Str.mk.injEq]
    exact Array.toList_inj.mp h
  by_cases h0 : x = Str.empty
  · subst h0
    simp [Str.empty]
  have hpos : 0 < x.length := by
    rcases Nat.eq_zero_or_pos x.length with h | h
    · refine absurd (ext _ _ ?_) h0
      have : x.cps.size = 0 := h
      simp [Str.empty]
      exact Array.size_eq_zero_iff.mp this
    · exact h
  rw [decide_eq_false h0, Bool.false_or]
  by_cases ha : Txt.isascii x = true
  · have hh : ∀ c ∈ x.cps.toList, c < 128 := by
      intro c hc
      unfold Txt.isascii at ha
      rw [Array.all_eq_true'] at ha
      simpa using ha c (by simpa using hc)
    have hl : decide (x = Txt.lower x) = x.cps.toList.all fun c => Unicode.lowerOf c == [c] := by
      have f := flat_eq x.cps.toList fun c hc => low_one c (hh c hc)
      rw [← lower_list x ha] at f
      rw [Bool.eq_iff_iff, decide_eq_true_eq, List.all_eq_true]
      constructor
      · intro e c hc
        have := f.mp (congrArg (fun z : Str => z.cps.toList) e.symm) c hc
        simpa using this
      · intro e
        exact ext _ _ (f.mpr fun c hc => by simpa using e c hc).symm
    have hal : Txt.isalpha x = x.cps.toList.all Unicode.isAlpha := by
      unfold Txt.isalpha
      rw [decide_eq_true hpos, Bool.true_and, ← Array.all_toList]
    rw [ha, hl, hal, Bool.true_and]
    generalize x.cps.toList = l at hh
    induction l with
    | nil => rfl
    | cons c l ih =>
      have h1 := low_tab c (hh c (by simp))
      have h2 := ih fun c hc => hh c (by simp [hc])
      simp only [List.all_cons, ← h1, ← h2]
      cases Unicode.isAlpha c <;> cases Unicode.lowerOf c == [c] <;> simp
  · have : Txt.isascii x = false := by simpa using ha
    rw [this, Bool.false_and, eq_comm, List.all_eq_false]
    unfold Txt.isascii at this
    rw [← Array.all_toList, List.all_eq_false] at this
    obtain ⟨c, hc, e⟩ := this
    refine ⟨c, hc, ?_⟩
    simp at e
    simp [isSign]; omega

theorem dc_it {J : It} {n : Nat} {G : Hp → Prop} {Y : Nat → Hp → V → Hp → Prop} (w : Walk J n G Y) {g : TG} {tt : TT} {tk tv : TE} {vs : List Nat} {σ : St} {H1 : Hp} {D : Addr} {Qd : Hp → Prop} (Pv : Nat → Hp → Prop) (h0 : Pv 0 (upd H1 D (.dK []))) (hG : ∀ i H, i ≤ n → Pv i H → G H)
    (hs : ∀ i x H H', i < n → Pv i H → Y i H x H' → g x (wipe σ vs) H' fun σ2 H2 => wipe σ2 vs = wipe σ vs ∧ tt σ2 H2 fun b H3 =>
      if b = true then tk σ2 H3 fun y H4 => tv σ2 H4 fun z H5 => ∃ kvs k, y = kV k ∧ H5 D = some (.dK kvs) ∧ kvs.length < sizeLine ∧ Pv (i + 1) (upd H5 D (.dK (putK kvs k z))) else Pv (i + 1) H3) (hd : ∀ H, Pv n H → Qd H) :
    ∃ W : Nat → Nat → Hp → Prop, (∃ m, W 0 m (upd H1 D (.dK []))) ∧ ∀ i m H, W i m H →
      (J.stop i H ∧ Qd H) ∨ (J.go i H ∧ ∃ Nx : Hp → Prop, (∀ H', Nx H' → ∃ m', m' < m ∧ W (i + 1) m' H') ∧ ∀ x H', J.yld i H x H' → g x (wipe σ vs) H' fun σ2 H2 => wipe σ2 vs = wipe σ vs ∧ tt σ2 H2 fun b H3 =>
        if b = true then tk σ2 H3 fun y H4 => tv σ2 H4 fun z H5 => ∃ kvs k, y = kV k ∧ H5 D = some (.dK kvs) ∧ kvs.length < sizeLine ∧ Nx (upd H5 D (.dK (putK kvs k z))) else Nx H3) := by
  refine ⟨fun i m H => m = n - i ∧ i ≤ n ∧ Pv i H, ⟨n, by simp, Nat.zero_le _, h0⟩, ?_⟩
  rintro i m H ⟨rfl, hi, p⟩
  have q := hG i H hi p
  by_cases hlt : i < n
  · refine .inr ⟨w.goes i H hlt q, Pv (i + 1), fun H' p' => ⟨n - (i + 1), by omega, rfl, hlt, p'⟩, fun x H' y => hs i x H H' hlt p (w.yields i H x H' hlt q y)⟩
  · have e : i = n := by omega
    subst e
    exact .inl ⟨w.stops H q, hd H p⟩
theorem dc_seqD {K : PySem.W.Frag} {a : Addr} {xs : List V} {g : TG} {tt : TT} {tk tv : TE} {vs : List Nat} {σ : St} {H : Hp} {Qd : Addr → Hp → Prop} (h : SqX H a xs) (Pv : Addr → Nat → Hp → Prop) (h0 : ∀ D, H D = none → Pv D 0 (upd H D (.dK [])))
    (hl : ∀ D i H', H D = none → i ≤ xs.length → Pv D i H' → H' a = H a)
    (hs : ∀ D i x H', H D = none → xs[i]? = some x → Pv D i H' → g x (wipe σ vs) H' fun σ2 H2 => wipe σ2 vs = wipe σ vs ∧ tt σ2 H2 fun b H3 =>
      if b = true then tk σ2 H3 fun y H4 => tv σ2 H4 fun z H5 => ∃ kvs k, y = kV k ∧ H5 D = some (.dK kvs) ∧ kvs.length < sizeLine ∧ Pv D (i + 1) (upd H5 D (.dK (putK kvs k z))) else Pv D (i + 1) H3) (hd : ∀ D H', H D = none → Pv D xs.length H' → Qd D H') :
    ∃ b, V.ref a = .ref b ∧ (((∃ ys, H b = some (.lst ys)) ∧ ∀ D, H D = none → ∃ W : Nat → Nat → Hp → Prop, (∃ m, W 0 m (upd H D (.dK []))) ∧ ∀ i m H, W i m H →
        ((Itl K b).stop i H ∧ Qd D H) ∨ ((Itl K b).go i H ∧ ∃ Nx : Hp → Prop, (∀ H', Nx H' → ∃ m', m' < m ∧ W (i + 1) m' H') ∧ ∀ x H', (Itl K b).yld i H x H' → g x (wipe σ vs) H' fun σ2 H2 => wipe σ2 vs = wipe σ vs ∧ tt σ2 H2 fun b H3 =>
          if b = true then tk σ2 H3 fun y H4 => tv σ2 H4 fun z H5 => ∃ kvs k, y = kV k ∧ H5 D = some (.dK kvs) ∧ kvs.length < sizeLine ∧ Nx (upd H5 D (.dK (putK kvs k z))) else Nx H3)) ∨
      ((∃ ys, H b = some (.tup ys)) ∧ ∀ D, H D = none → ∃ W : Nat → Nat → Hp → Prop, (∃ m, W 0 m (upd H D (.dK []))) ∧ ∀ i m H, W i m H →
        ((Itt K b).stop i H ∧ Qd D H) ∨ ((Itt K b).go i H ∧ ∃ Nx : Hp → Prop, (∀ H', Nx H' → ∃ m', m' < m ∧ W (i + 1) m' H') ∧ ∀ x H', (Itt K b).yld i H x H' → g x (wipe σ vs) H' fun σ2 H2 => wipe σ2 vs = wipe σ vs ∧ tt σ2 H2 fun b H3 =>
          if b = true then tk σ2 H3 fun y H4 => tv σ2 H4 fun z H5 => ∃ kvs k, y = kV k ∧ H5 D = some (.dK kvs) ∧ kvs.length < sizeLine ∧ Nx (upd H5 D (.dK (putK kvs k z))) else Nx H3))) := by
  refine ⟨a, rfl, ?_⟩
  rcases h with h | h
  · refine .inl ⟨⟨xs, h⟩, fun D hD => dc_it (walk_list (K := K) (a := a) (xs := xs)) (Pv D) (h0 D hD) (fun i H' hi p => SqL.of ((hl D i H' hD hi p).trans h)) ?_ fun H' p => hd D H' hD p⟩
    rintro i x H' _ _ p ⟨rfl, e⟩
    exact hs D i x _ hD e p
  · refine .inr ⟨⟨xs, h⟩, fun D hD => dc_it (walk_tup (K := K) (a := a) (xs := xs)) (Pv D) (h0 D hD) (fun i H' hi p => SqT.of ((hl D i H' hD hi p).trans h)) ?_ fun H' p => hd D H' hD p⟩
    rintro i x H' _ _ p ⟨rfl, e⟩
    exact hs D i x _ hD e p

theorem lc_seqD {K : PySem.W.Frag} {a : Addr} {xs : List V} {g : TG} {tt : TT} {te : TE} {vs : List Nat} {σ : St} {H : Hp} {Qd : Addr → Hp → Prop} (h : SqX H a xs) (Pv : Addr → Nat → Hp → Prop) (h0 : ∀ D, H D = none → Pv D 0 (upd H D (.lst [])))
    (hl : ∀ D i H', H D = none → i ≤ xs.length → Pv D i H' → H' a = H a)
    (hs : ∀ D i x H', H D = none → xs[i]? = some x → Pv D i H' → g x (wipe σ vs) H' fun σ2 H2 => wipe σ2 vs = wipe σ vs ∧ tt σ2 H2 fun b H3 =>
      if b = true then te σ2 H3 fun y H4 => ∃ acc, H4 D = some (.lst acc) ∧ acc.length < sizeLine ∧ Pv D (i + 1) (upd H4 D (.lst (acc ++ [y]))) else Pv D (i + 1) H3) (hd : ∀ D H', H D = none → Pv D xs.length H' → Qd D H') :
    ∃ b, V.ref a = .ref b ∧ (((∃ ys, H b = some (.lst ys)) ∧ ∀ D, H D = none → ∃ W : Nat → Nat → Hp → Prop, (∃ m, W 0 m (upd H D (.lst []))) ∧ ∀ i m H, W i m H →
        ((Itl K b).stop i H ∧ Qd D H) ∨ ((Itl K b).go i H ∧ ∃ Nx : Hp → Prop, (∀ H', Nx H' → ∃ m', m' < m ∧ W (i + 1) m' H') ∧ ∀ x H', (Itl K b).yld i H x H' → g x (wipe σ vs) H' fun σ2 H2 => wipe σ2 vs = wipe σ vs ∧ tt σ2 H2 fun b H3 =>
          if b = true then te σ2 H3 fun y H4 => ∃ acc, H4 D = some (.lst acc) ∧ acc.length < sizeLine ∧ Nx (upd H4 D (.lst (acc ++ [y]))) else Nx H3)) ∨
      ((∃ ys, H b = some (.tup ys)) ∧ ∀ D, H D = none → ∃ W : Nat → Nat → Hp → Prop, (∃ m, W 0 m (upd H D (.lst []))) ∧ ∀ i m H, W i m H →
        ((Itt K b).stop i H ∧ Qd D H) ∨ ((Itt K b).go i H ∧ ∃ Nx : Hp → Prop, (∀ H', Nx H' → ∃ m', m' < m ∧ W (i + 1) m' H') ∧ ∀ x H', (Itt K b).yld i H x H' → g x (wipe σ vs) H' fun σ2 H2 => wipe σ2 vs = wipe σ vs ∧ tt σ2 H2 fun b H3 =>
          if b = true then te σ2 H3 fun y H4 => ∃ acc, H4 D = some (.lst acc) ∧ acc.length < sizeLine ∧ Nx (upd H4 D (.lst (acc ++ [y]))) else Nx H3))) := by
  refine ⟨a, rfl, ?_⟩
  rcases h with h | h
  · exact .inl ⟨⟨xs, h⟩, fun D hD => lc_list (K := K) (a := a) (xs := xs) (Pv D) (h0 D hD) (fun i H' hi p => SqL.of ((hl D i H' hD hi p).trans h)) (fun i x H' e p => hs D i x H' hD e p) fun H' p => hd D H' hD p⟩
  · exact .inr ⟨⟨xs, h⟩, fun D hD => lc_tup (K := K) (a := a) (xs := xs) (Pv D) (h0 D hD) (fun i H' hi p => SqT.of ((hl D i H' hD hi p).trans h)) (fun i x H' e p => hs D i x H' hD e p) fun H' p => hd D H' hD p⟩
def setK (zs : List Str) : List (Key × V) := zs.map fun z => (Sum.inr z, V.bl true)
theorem setK_put (zs : List Str) (z : Str) : putK (setK zs) (Sum.inr z) (.bl true) = setK (if z ∈ zs then zs else zs ++ [z]) := by
  unfold putK setK
  by_cases h : z ∈ zs
  · have : (List.map (fun z => ((Sum.inr z : Key), V.bl true)) zs).any (fun kv => decide (kv.1 = Sum.inr z)) = true := by
      rw [List.any_eq_true]
      exact ⟨(Sum.inr z, .bl true), by simp [h], by simp⟩
    rw [if_pos this, if_pos h, List.map_map]
    refine List.map_congr_left fun y hy => ?_
    by_cases e : y = z
    · subst e; simp
    · simp
  · have : (List.map (fun z => ((Sum.inr z : Key), V.bl true)) zs).any (fun kv => decide (kv.1 = Sum.inr z)) = false := by
      rw [List.any_eq_false]
      rintro ⟨k, v⟩ hk
      simp only [List.mem_map, Prod.mk.injEq] at hk
      obtain ⟨y, hy, rfl, rfl⟩ := hk
      simp only [decide_eq_true_eq, Sum.inr.injEq]
      rintro rfl
      exact h hy
    rw [if_neg (by simp [this]), if_neg h]
    simp
theorem joined_all (zs : List Str) (p : Nat → Bool) : (Str.join Str.empty zs).cps.toList.all p = zs.all fun z => z.cps.toList.all p := by
  have h := TL.tl_join Str.empty zs
  have e : ∀ l : List (List Nat), (TL.joinL [] l).all p = l.all fun c => c.all p := by
    intro l
    induction l with
    | nil => rfl
    | cons c l ih =>
      cases l with
      | nil => simp [TL.joinL]
      | cons d l => simp only [TL.joinL, List.nil_append, List.all_append, List.all_cons] at ih ⊢; rw [ih]
  have h2 : (Str.join Str.empty zs).cps.toList = TL.joinL [] (zs.map TL.tl) := h
  rw [h2, e, List.all_map]
  rfl
theorem joined_len (zs : List Str) : (Str.join Str.empty zs).length = (zs.map (·.length)).sum := by
  have h := TL.tl_join Str.empty zs
  have e : ∀ l : List (List Nat), (TL.joinL [] l).length = (l.map (·.length)).sum := by
    intro l
    induction l with
    | nil => rfl
    | cons c l ih =>
      cases l with
      | nil => simp [TL.joinL]
      | cons d l => simp only [TL.joinL, List.nil_append, List.length_append, List.map_cons, List.sum_cons] at ih ⊢; rw [ih]
  have h2 : (Str.join Str.empty zs).cps.toList = TL.joinL [] (zs.map TL.tl) := h
  have h3 : (Str.join Str.empty zs).length = (Str.join Str.empty zs).cps.toList.length := by simp [Str.length]
  rw [h3, h2, e, List.map_map]
  congr 1
def nStr (d : PyData) : Bool := !dStr d
theorem wDs_filter (p : PyData → Bool) (l : List PyData) : wDs (l.filter p) ≤ wDs l := by
  induction l with
  | nil => exact Nat.le_refl _
  | cons d l ih =>
    rw [List.filter_cons]
    split <;> simp only [wDs] <;> omega
theorem parts_strs {es : List PyData} {zs : List Str} (hm : ∀ z, z ∈ zs ↔ PyData.str z ∈ es) : partsD es = (partsD (es.filter nStr) && zs.all isThingS) := by
  rw [partsD_eq, partsD_eq, Bool.eq_iff_iff, Bool.and_eq_true, List.all_eq_true, List.all_eq_true, List.all_eq_true]
  constructor
  · intro h
    exact ⟨fun d hd => h d (List.mem_filter.mp hd).1, fun z hz => h (.str z) ((hm z).mp hz)⟩
  · rintro ⟨h1, h2⟩ d hd
    by_cases s : dStr d = true
    · cases d with
      | str z => exact h2 z ((hm z).mpr hd)
      | _ => cases s
    · exact h1 d (List.mem_filter.mpr ⟨hd, by simpa [nStr] using s⟩)
theorem part_nstr {d : PyData} (s : dStr d = false) (h : againD d = false) : partD d = false := by
  rw [partD_eq, h]
  cases d <;> first | rfl | cases s
end MC

set_option Elab.async false
set_option linter.all false
set_option maxRecDepth 100000
set_option maxHeartbeats 4000000
set_option exponentiation.threshold 20000
namespace MC
open PySem PySem.Spec L2
theorem same_new {H : Hp} {p : Addr} (h : H p = none) (o : HO) : Same H (upd H p o) := fun b u e => by rw [upd_ne (ne_of_none e h)]; exact e
theorem same_mut {H H' : Hp} {p : Addr} (e : Same H H') (h : H p = none) (o : HO) : Same H (upd H' p o) := fun b u q => by rw [upd_ne (ne_of_none q h)]; exact e b u q
theorem take_more {α : Type} {l : List α} {i : Nat} {x : α} (h : l[i]? = some x) : l.take (i + 1) = l.take i ++ [x] := by
  rw [List.take_succ, h]; rfl
end MC
namespace HR
open PySem PySem.Spec L2 MC
open PyProof.Rows hiding St
theorem weak {P : Program} {w : World} {K : PySem.W.Frag} {mg : Str → Option Value} {base : Heap} {k : Nat} {f : Addr} {fd : FuncData} {ps : List Str} {sp sp' : Sp} (F : FnOk P w K mg base CX0 k f fd ps sp) (h : ∀ vs H Q E, sp' vs H Q E → sp vs H Q E) : FnOk P w K mg base CX0 k f fd ps sp' :=
  ⟨fun vs H Q E z => F.len vs H Q E (h vs H Q E z), fun A outer s H args us vs Q E a b c d z => F.run A outer s H args us vs Q E a b c d (h vs H Q E z)⟩
def spD0 (g : PyData → Bool) : Sp := fun vs H Q _ => ∃ x d, vs = [x] ∧ DD H x d ∧ ∀ H', Same H H' → Q (.bl (g d)) H'
theorem spD0_len {g : PyData → Bool} : ∀ vs H Q E, spD0 g vs H Q E → vs.length = 1 := fun vs H Q E h => by
  obtain ⟨x, d, rfl, _⟩ := h
  rfl
def spD (g : PyData → Bool) : Sp := fun vs H Q _ => ∃ x d, vs = [x] ∧ DD H x d ∧ okD d = true ∧ d.depth ≤ 60 ∧ wD d ≤ 2000 ∧ ∀ H', Same H H' → Q (.bl (g d)) H'
theorem spD_len {g : PyData → Bool} : ∀ vs H Q E, spD g vs H Q E → vs.length = 1 := fun vs H Q E h => by
  obtain ⟨x, d, rfl, _⟩ := h
  rfl
def spSm : Sp := fun vs H Q _ => ∃ z : Str, vs = [.str z] ∧ z.length ≤ 5592405 ∧ Q (.bl (z.cps.toList.all isSign)) H
def spTh : Sp := fun vs H Q _ => ∃ (D : Addr) (zs : List Str), vs = [.ref D] ∧ H D = some (.dK (setK zs)) ∧ zs.length ≤ 2000 ∧ (∀ z ∈ zs, z.length ≤ 9) ∧ ∀ H', Same H H' → Q (.bl (zs.all isThingS)) H'
def midZ (z : Str) : Bool := decide (1 ≤ z.length) && decide (z.length ≤ 8)
theorem mid_all (zs : List Str) : zs.all isThingS = (decide ((zs.filter midZ).length = zs.length) && (zs.filter midZ).all fun z => z.cps.toList.all isSign) := by
  induction zs with
  | nil => rfl
  | cons z zs ih =>
    have e : isThingS z = (midZ z && z.cps.toList.all isSign) := by unfold isThingS midZ; rfl
    have h := List.length_filter_le midZ zs
    rw [List.all_cons, ih, e, List.filter_cons]
    cases midZ z with
    | true =>
      simp only [if_true, List.length_cons, List.all_cons, Bool.true_and, Nat.add_right_cancel_iff]
      cases z.cps.toList.all isSign <;> simp
    | false =>
      simp only [Bool.false_and, Bool.false_eq_true, if_false, List.length_cons]
      rw [decide_eq_false (by omega), Bool.false_and]
def Ent (H0 H : Hp) (v : V) (d : PyData) : Prop := ∃ t x k, v = .ref t ∧ H t = some (.tup [x, .int k]) ∧ DD H0 x d ∧ dSeq d = true ∧ okD d = true ∧ 0 ≤ k ∧ d.depth + k.toNat ≤ 60
theorem Ent.mono {H0 H H' : Hp} {v : V} {d : PyData} (h : Ent H0 H v d) (e : ∀ t xs, H t = some (.tup xs) → H' t = some (.tup xs)) : Ent H0 H' v d := by
  obtain ⟨t, x, k, h1, h2, r⟩ := h
  exact ⟨t, x, k, h1, e _ _ h2, r⟩
def wsum (es : List (V × PyData)) : Nat := wDs (es.map (·.2))
theorem wsum_append (a b : List (V × PyData)) : wsum (a ++ b) = wsum a + wsum b := by unfold wsum; rw [List.map_append, wDs_append]
theorem keep_upd {H : Hp} {w : Addr} {xs : List V} (h : H w = some (.lst xs)) (ys : List V) : ∀ t zs, H t = some (.tup zs) → upd H w (.lst ys) t = some (.tup zs) := fun t zs e => by
  rw [upd_ne (ne_of e h (fun z => nomatch z))]; exact e
theorem last_split {α : Type} {l : List α} (h : l ≠ []) : ∃ a b, l = a ++ [b] := ⟨_, _, (List.dropLast_concat_getLast h).symm⟩
end HR

namespace VD
open PySem PySem.Spec L2
open PyProof.Rows hiding St
mutual
theorem DD.mc {H : Hp} : ∀ {d : D} {v : V}, VD.DD H v d → d.noD = true → MC.DD H v d.py
  | .non, _, h, _ => by cases h; exact .non
  | .bl _, _, h, _ => by cases h; exact .bl _
  | .int _, _, h, _ => by cases h; exact .int _
  | .str _, _, h, _ => by cases h; exact .str _
  | .lst ds, _, h, n => by
    cases h with
    | lst h hs => exact .lst h (DDs.mc hs n)
  | .tup ds, _, h, n => by
    cases h with
    | tup h hs => exact .tup h (DDs.mc hs n)
  | .dct _, _, _, n => by cases n
  | .ro _, _, _, n => by cases n
theorem DDs.mc {H : Hp} : ∀ {ds : List D} {vs : List V}, VD.DDs H vs ds → noDs ds = true → MC.DDs H vs (pys ds)
  | [], _, h, _ => by cases h; exact .nil
  | d :: ds, _, h, n => by
    cases h with
    | cons h hs =>
      simp only [noDs, Bool.and_eq_true] at n
      exact .cons (DD.mc h n.1) (DDs.mc hs n.2)
end
def rowFit (d : D) : Bool := d.noD && MC.okD d.py && decide (d.py.depth ≤ 60) && decide (MC.wD d.py ≤ 2000)
def denLook (g : PyData → Bool) : List D → Option (D × List D) := fun ds => match ds with
  | [d] => if rowFit d then some (.bl (g d.py), []) else none
  | _ => none
theorem look_den {P : Program} {w : World} {K : PySem.W.Frag} {mg : Str → Option Value} {base : Heap} {k : Nat} {f : Addr} {fd : FuncData} {ps : List Str} {g : PyData → Bool} (F : FnOk P w K mg base CX0 k f fd ps (HR.spD g)) (hp : ps.length = 1) :
    MC.FnA Clean P w K mg base CX0 k f fd ps (SpD K (denLook g) [] [] 1) := by
  have key : ∀ vs H Q E, SpD K (denLook g) [] [] 1 vs H Q E → HR.spD g vs H Q E := fun vs H Q E h => by
    obtain ⟨ds, S, r, outs, hi, hg, q⟩ := h
    match ds, hi.lenD, vs, hi.lenV with
    | [d], _, [v], _ =>
      unfold denLook at hg
      simp only [] at hg
      split at hg
      · rename_i hf
        cases hg
        unfold rowFit at hf
        simp only [Bool.and_eq_true, decide_eq_true_eq] at hf
        obtain ⟨⟨⟨h1, h2⟩, h3⟩, h4⟩ := hf
        obtain ⟨v', hv, rv⟩ := hi.rep 0 d rfl
        cases hv
        have dd : VD.DD H v d := (rv.dd (noD_ro h1)).mono res_same
        refine ⟨v, d.py, rfl, dd.mc h1, h2, h3, h4, fun H' s => q _ H' S (fun _ => False) ⟨fun b o e _ => s b o e, same_thr s, .inr (.bl _), fun b z => z.elim, fun b z => z.elim, (fun j m z => by simp at z), (fun m z => nomatch z), (fun m z => nomatch z), (fun m z => nomatch z)⟩⟩
      · cases hg
  exact MC.FnA.of ⟨fun vs H Q E z => F.len vs H Q E (key vs H Q E z), fun A outer s H args us vs Q E a b c d z => F.run A outer s H args us vs Q E a b c d (key vs H Q E z)⟩
end VD

set_option Elab.async false
set_option linter.all false
set_option maxRecDepth 100000
set_option maxHeartbeats 4000000
set_option exponentiation.threshold 20000
namespace VD
open PySem PySem.Spec L2 MC
open PyProof.Rows hiding St
def pSortedR (b : Bool) : List D → Option D := fun ds => match ds with
  | [d] => (listInts d).map fun ns => .lst ((if b then (sortI ns).reverse else sortI ns).map D.int)
  | _ => none
theorem ord_uniq {b : Bool} {ns ms : List Int} (pm : ms.Perm ns) (o : OrdB b ms) : (if b then (sortI ns).reverse else sortI ns) = ms := by
  unfold OrdB at o
  cases b with
  | false => exact (sortI_uniq pm (by simpa using o)).symm ▸ rfl
  | true =>
    have o : ms.Pairwise (· ≥ ·) := by simpa using o
    have : ms.reverse = sortI ns := sortI_uniq ((List.reverse_perm ms).trans pm) (by rw [List.pairwise_reverse]; exact o)
    rw [if_pos rfl, ← this, List.reverse_reverse]
theorem pn_sortedR {K : PySem.W.Frag} {b : Bool} : PnL K (fun vs H Q => rSortedKw K b [.bl b] vs [.bl b] H Q) (pSortedR b) := by
  intro H T vs ds d Q h hp q
  unfold pSortedR at hp
  split at hp
  · obtain ⟨ns, h1, rfl⟩ := Option.map_eq_some_iff.mp hp
    obtain ⟨v, rfl, hv⟩ := h.one
    obtain ⟨a, rfl, ha⟩ := hv.ints h1
    refine ⟨a, ns, rfl, rfl, SqL.up res_same ha, fun ms p pm st hp => ?_⟩
    have e := ord_uniq pm st
    rw [e] at q
    exact q p _ ⟨hp, (fun _ _ z => nomatch z), fun H' sm hp' => .lst hp' (dds_ints _)⟩
  · cases hp
section
variable {X : Cx} {F : Fx} {R : Rl} {NM : List Nat} {a : Expr} {p cp kpos pos : Pos} {j : Nat} {b : Bool} {ds : Ev → Option (List D × Ev)} {As : List (List Nat)} {M : List Nat}
theorem ve_sortR {jj} (hg : Gl X "sorted") (hm : X.mg "sorted" = none) (ha : VA X F R NM [a] ds As M) (hv : bootBuiltins "sorted" = some (.builtin "sorted") := by decide +kernel)
    (he : backTo pos (starEach (a :: []) X.env) = (false, eval a X.env) :: backTo pos (starEach [] X.env) := by rfl) (hpl : (backTo pos (starEach (a :: []) X.env)).any (·.1) = false := by rfl)
    (hall : (backToKw pos (keywordEach [⟨some "reverse", .Constant (.bool b) jj cp, kpos⟩] X.env)).all (·.1.isSome) = true := by rfl) (hnone : (backToKw pos (keywordEach [⟨some "reverse", .Constant (.bool b) jj cp, kpos⟩] X.env)).any (·.1.isNone) = false := by rfl) (hks : (backToKw pos (keywordEach [⟨some "reverse", .Constant (.bool b) jj cp, kpos⟩] X.env)).filterMap (·.1) = [Str.ofString "reverse"] := by rfl) :
    VE X F R NM (.Call (.Name "sorted" p) [a] [⟨some "reverse", .Constant (.bool b) jj cp, kpos⟩] pos) (dFe (dL (pSortedR b) ds)) [] M := by
  obtain ⟨t, q, s⟩ := ha.ex
  refine ⟨_, pe_callBK (ks := [Str.ofString "reverse"]) (cr_sortedRev (b := b)) hg hm hv q (pk_cons pe_bl pk_nil) (by decide) (by decide) he hpl hall hnone hks, ?_⟩
  exact se_nL (r := fun vs H Q => rSortedKw X.K b [.bl b] vs [.bl b] H Q) pn_sortedR s
end
theorem fn_none {P : Program} {w : World} {K : PySem.W.Frag} {mg : Str → Option Value} {base : Heap} {k : Nat} {f : Addr} {fd : FuncData} {ps : List Str} {mu al : List Nat} {np : Nat} : FnA Clean P w K mg base CX0 k f fd ps (SpD K (fun _ => none) mu al np) := by
  constructor
  · intro vs H Q E h
    obtain ⟨ds, S, r, outs, _, hg, _⟩ := h; cases hg
  · intros
    rename_i h
    obtain ⟨ds, S, r, outs, _, hg, _⟩ := h; cases hg
end VD

set_option Elab.async false
set_option linter.all false
set_option maxRecDepth 100000
set_option maxHeartbeats 4000000
set_option exponentiation.threshold 20000
namespace Sh
open PySem PySem.Spec L2 MC VD
open PyProof.Rows hiding St
noncomputable def body_check_row : Ev → Option Out := (sIf (tNotD (dBool (dCall (denLook MC.rowD) [] [] (aCons (dVar 0) aNil))))
    sNo
    sNil)
noncomputable def den_check_row : List D → Option (D × List D) := dFn 1 [] body_check_row
noncomputable def body_count_asks (den : List D → Option (D × List D)) : Ev → Option Out := (sSeq (sSet 1 (dLc [2] (iSt seqD (dVar 0)) (bFl false (bName 2)) (tNotD (dBool (d1 (pIsi "str") (dVar 2)))) (dVar 2)))
    (sRt (d2 pAdd (d2 pSub (dL pLen (aCons (dVar 0) aNil)) (dL pLen (aCons (dVar 1) aNil))) (dL pSum (aCons (dLc [3, 4] (iSt seqD (dVar 1)) (bFl false (bTup 2 (bCons (bName 3) (bCons (bName 4) bNil)))) dYes (d2 pMul (dCall (den) [] [] (aCons (dVar 3) aNil)) (dVar 4))) aNil)))))
noncomputable def denN_count_asks : Nat → List D → Option (D × List D)
  | 0 => fun _ => none
  | n + 1 => dFn 5 [] (body_count_asks (denN_count_asks n))
noncomputable def den_count_asks : List D → Option (D × List D) := denN_count_asks 12
noncomputable def body_check_near : Ev → Option Out := (sSeq (sSet 1 (dCall (Sh.den_count_asks) [] [] (aCons (dVar 0) aNil)))
    (sIf (dBool (d2 pGt (dVar 1) (dC (.int 400))))
    sNo
    sNil))
noncomputable def den_check_near : List D → Option (D × List D) := dFn 2 [] body_check_near
noncomputable def bd_laid_out_1 (den : List D → Option (D × List D)) : Ev → Option Out := (sIf (dBool (d1 (pIsi "str") (dVar 2)))
    (sDo (dMutL mAppend 1 [] (aCons (dFl (dVar 2)) aNil)))
    (sSeq (sAsg (dVar 2) (bTup 2 (bCons (bName 3) (bCons (bName 4) bNil))))
    (sDo (dMutL mExtend 1 [] (aCons (dFe (d2 pRep (dCall (den) [] [] (aCons (dVar 3) aNil)) (dVar 4))) aNil)))))
noncomputable def body_laid_out (den : List D → Option (D × List D)) : Ev → Option Out := (sSeq (sSet 1 (dLst aNil))
    (sSeq (sFor (iSt seqD (dVar 0)) (bFl false (bName 2)) (bd_laid_out_1 den))
    (sRt (dVar 1))))
noncomputable def denN_laid_out : Nat → List D → Option (D × List D)
  | 0 => fun _ => none
  | n + 1 => dFn 5 [] (body_laid_out (denN_laid_out n))
noncomputable def den_laid_out : List D → Option (D × List D) := denN_laid_out 12
noncomputable def body_near : Ev → Option Out := (sSeq (sDo (dCall (Sh.den_check_row) [] [] (aCons (dVar 0) aNil)))
    (sSeq (sDo (dCall (Sh.den_check_near) [] [] (aCons (dVar 0) aNil)))
    (sRt (dCall (Sh.den_laid_out) [] [] (aCons (dVar 0) aNil)))))
noncomputable def den_near : List D → Option (D × List D) := dFn 1 [] body_near
noncomputable def bd_depth_behind_1 : Ev → Option Out := (sSeq (sSet 4 (d2 pDiv (d2 pAdd (dVar 3) (dVar 2)) (dC (.int 2))))
    (sIf (dBool (d2 pGt (d2 pIx (dVar 0) (d2 pSub (d1 pNeg (dC (.int 1))) (dVar 4))) (d2 pSub (dVar 4) (dVar 1))))
    (sSet 3 (d2 pAdd (dVar 4) (dC (.int 1))))
    (sSet 2 (dFl (dVar 4)))))
noncomputable def bd_depth_behind_2 : Ev → Option (Bool × Ev) := (dBool (d2 pLt (dVar 3) (dVar 2)))
noncomputable def body_depth_behind : Ev → Option Out := (sSeq (sSet 2 (dL pLen (aCons (dVar 0) aNil)))
    (sSeq (sSet 3 (dC (.int 0)))
    (sSeq (sWhile bd_depth_behind_2 bd_depth_behind_1)
    (sRt (dL pMax2 (aCons (dC (.int 0)) (aCons (d2 pSub (dVar 3) (dVar 1)) aNil)))))))
noncomputable def den_depth_behind : List D → Option (D × List D) := dFn 5 [] body_depth_behind
noncomputable def bd_reckoned_1 : Ev → Option Out := (sSeq (sIf (dBool (d2 (pDIn false) (dVar 6) (dVar 4)))
    (sSeq (sSet 7 (dFe (dL pSorted (aCons (dFe (dSl pSlL (dVar 3) (oSo (d2 pAdd (d2 pDGet (dVar 4) (dVar 6)) (dC (.int 1)))) oNo)) aNil))))
    (sDo (dMutL mAppend 3 [] (aCons (dCall (Sh.den_depth_behind) [] [] (aCons (dVar 7) (aCons (dFl (dGet2 (dVar 1) (dVar 6) (dC (.int 0)))) aNil))) aNil))))
    (sDo (dMutL mAppend 3 [] (aCons (dFl (dVar 2)) aNil))))
    (sPutK 4 [] (dFl (dVar 5)) (dVar 6)))
noncomputable def body_reckoned : Ev → Option Out := (sSeq (sSet 2 (d2 pSub (dL pLen (aCons (dVar 0) aNil)) (dL pMin2 (aCons (dC (.int 0)) (aCons (d1 pMinV (dVar 1)) aNil)))))
    (sSeq (sSet 3 (dLst aNil))
    (sSeq (sSet 4 (dC (.dct [])))
    (sSeq (sFor (iStL enumP (aCons (dVar 0) aNil)) (bFl true (bTup 2 (bCons (bName 5) (bCons (bName 6) bNil)))) bd_reckoned_1)
    (sRt (dLc [8] (iSt seqD (dVar 3)) (bFl true (bName 8)) dYes (dFl (dIf (dBool (d2 pEqS (dVar 8) (dVar 2))) (dC .non) (dVar 8)))))))))
noncomputable def den_reckoned : List D → Option (D × List D) := dFn 9 [] body_reckoned
noncomputable def body_l_jar : Ev → Option Out := (sSeq (sSet 2 (dFl (dIf (dBool (d2 pLt (dVar 1) (dL pLen (aCons (dVar 0) aNil)))) (d2 pIx (dVar 0) (dVar 1)) (dC (.int 0)))))
    (sRt (dLst (aCons (dL pMax2 (aCons (dC (.int 0)) (aCons (d2 pSub (dVar 2) (d2 pPow (dC (.int 10)) (dC (.int 18)))) aNil))) (aCons (d2 pAdd (d2 pMul (d2 pMod (dVar 2) (d2 pAdd (d2 pPow (dC (.int 10)) (dC (.int 35))) (dC (.int 69)))) (dC (.int 256))) (dVar 1)) (aCons (dC (.int 0)) aNil))))))
noncomputable def den_l_jar : List D → Option (D × List D) := dFn 3 [] body_l_jar
noncomputable def body_l_pour : Ev → Option Out := (sSeq (sIf (dBool (d2 pGt (d2 pIx (dVar 0) (dC (.int 0))) (dC (.int 0))))
    (sSeq (sSet 2 (d2 pMod (d2 pIx (dVar 0) (dC (.int 0))) (dVar 1)))
    (sSeq (sPutL 0 [] (d2 pDiv (d2 pIx (dVar 0) (dC (.int 0))) (dVar 1)) (dC (.int 0)))
    (sRt (dFl (dVar 2)))))
    sNil)
    (sSeq (sPutL 0 [] (d2 pAdd (d2 pIx (dVar 0) (dC (.int 2))) (dC (.int 1))) (dC (.int 2)))
    (sSeq (sSet 3 (d2 pMod (d2 pPow (d2 pAdd (d2 pIx (dVar 0) (dC (.int 1))) (d2 pMul (dC (.int 15485863)) (d2 pIx (dVar 0) (dC (.int 2))))) (dC (.int 3))) (d2 pAdd (d2 pPow (dC (.int 10)) (dC (.int 37))) (dC (.int 43)))))
    (sSeq (sSet 3 (d2 pMod (d2 pPow (d2 pAdd (dVar 3) (d2 pMul (dC (.int 32452867)) (d2 pIx (dVar 0) (dC (.int 2))))) (dC (.int 5))) (d2 pAdd (d2 pPow (dC (.int 10)) (dC (.int 39))) (dC (.int 3)))))
    (sRt (d2 pMod (d2 pDiv (dVar 3) (dC (.int 131071))) (dVar 1)))))))
noncomputable def den_l_pour : List D → Option (D × List D) := dFn 4 [0] body_l_pour
noncomputable def bd_l_named_1 : Ev → Option Out := (sSeq (sSet 7 (d2 pAddS (d2 pIxS (dVar 2) (d2 pMod (dVar 6) (dC (.int 26)))) (d2 pIxS (dVar 2) (d2 pDiv (dVar 6) (dC (.int 26))))))
    (sDo (dMutL mAppend 5 [] (aCons (dFl (d2 pIx (dLst (aCons (d2 pMulS (d2 pIxS (dVar 2) (d2 pMod (dVar 6) (dC (.int 26)))) (d2 pAdd (dC (.int 1)) (d2 pDiv (dVar 6) (dC (.int 26))))) (aCons (d2 pAddS (dVar 4) (dVar 7)) (aCons (d2 pAddS (dVar 7) (dVar 4)) aNil)))) (dVar 3))) aNil))))
noncomputable def body_l_named : Ev → Option Out := (sSeq (sSet 2 (dC (.str ("abcdefghijklmnopqrstuvwxyz" : Str))))
    (sSeq (sSet 3 (dCall (Sh.den_l_pour) [0] [] (aOwn 0 (aCons (dC (.int 3)) aNil))))
    (sSeq (sSet 4 (dM isStr pJoin (dC (.str ("" : Str))) (aCons (dLc [6] (iStL rng1P (aCons (dCall (Sh.den_l_pour) [0] [] (aOwn 0 (aCons (dC (.int 7)) aNil))) aNil)) (bFl true (bName 6)) dYes (d2 pIxS (dVar 2) (dCall (Sh.den_l_pour) [0] [] (aOwn 0 (aCons (dC (.int 26)) aNil))))) aNil)))
    (sSeq (sSet 5 (dLst aNil))
    (sSeq (sFor (iStL rng1P (aCons (dVar 1) aNil)) (bFl true (bName 6)) bd_l_named_1)
    (sRt (dVar 5)))))))
noncomputable def den_l_named : List D → Option (D × List D) := dFn 8 [0] body_l_named
noncomputable def bd_l_asks_1 : Ev → Option Out := (sSeq (sSet 7 (dFl (d2 pIx (dVar 1) (dCall (Sh.den_l_pour) [0] [] (aOwn 0 (aCons (dFl (dVar 4)) aNil))))))
    (sSeq (sSet 8 (dFl (dIf (dBool (d2 pNeD (dVar 5) (dLst aNil))) (d2 pIx (dVar 5) (d2 pSub (d2 pSub (dL pLen (aCons (dVar 5) aNil)) (dC (.int 1))) (dCall (Sh.den_l_pour) [0] [] (aOwn 0 (aCons (dL pMin2 (aCons (dL pLen (aCons (dVar 5) aNil)) (aCons (dC (.int 7)) aNil))) aNil))))) (dVar 7))))
    (sSeq (sSet 9 (dFl (d2 pIx (dVar 1) (d2 pMod (dL pAbs (aCons (d2 pSub (d2 pMod (dVar 6) (d2 pMul (dC (.int 2)) (dVar 4))) (dVar 4)) aNil)) (dVar 4)))))
    (sSeq (sSet 10 (dFl (d2 pIx (dVar 1) (d2 pMod (dVar 6) (dVar 4)))))
    (sSeq (sSet 11 (dCall (Sh.den_l_pour) [0] [] (aOwn 0 (aCons (dC (.int 5)) aNil))))
    (sDo (dMutL mAppend 5 [] (aCons (dFl (d2 pIx (dLst (aCons (dFl (dVar 7)) (aCons (dFl (dVar 10)) (aCons (dFl (dIf (dBool (d2 pGt (dVar 11) (dC (.int 0)))) (dVar 8) (dVar 7))) (aCons (dFl (dVar 9)) (aCons (dFl (dIf (dBool (d2 pEqS (dVar 11) (dC (.int 0)))) (dVar 7) (dVar 10))) aNil)))))) (dVar 3))) aNil))))))))
noncomputable def body_l_asks : Ev → Option Out := (sSeq (sSet 3 (dCall (Sh.den_l_pour) [0] [] (aOwn 0 (aCons (dC (.int 5)) aNil))))
    (sSeq (sSet 4 (d2 pAdd (dC (.int 1)) (dCall (Sh.den_l_pour) [0] [] (aOwn 0 (aCons (dL pLen (aCons (dVar 1) aNil)) aNil)))))
    (sSeq (sSet 5 (dLst aNil))
    (sSeq (sFor (iStL rng1P (aCons (dCall (Sh.den_l_pour) [0] [] (aOwn 0 (aCons (d2 pAdd (dVar 2) (dC (.int 1))) aNil))) aNil)) (bFl true (bName 6)) bd_l_asks_1)
    (sRt (dVar 5))))))
noncomputable def den_l_asks : List D → Option (D × List D) := dFn 12 [0] body_l_asks
noncomputable def bd_l_graced_1 : Ev → Option Out := (sSeq (sSet 5 (d2 pIx (dLst (aCons (d2 pSub (dCall (Sh.den_l_pour) [0] [] (aOwn 0 (aCons (dC (.int 6)) aNil))) (dC (.int 2))) (aCons (d2 pSub (dCall (Sh.den_l_pour) [0] [] (aOwn 0 (aCons (d2 pMul (dC (.int 2)) (d2 pPow (dC (.int 10)) (dC (.int 29)))) aNil))) (d2 pPow (dC (.int 10)) (dC (.int 29)))) aNil))) (dL pInt (aCons (vAndD (d2 pEqS (dVar 2) (dC (.int 3))) (d2 pEqS (dCall (Sh.den_l_pour) [0] [] (aOwn 0 (aCons (dC (.int 3)) aNil))) (dC (.int 0)))) aNil))))
    (sIf (tAndD (dBool (d2 pGt (dVar 2) (dC (.int 1)))) (dBool (d2 pEqS (dCall (Sh.den_l_pour) [0] [] (aOwn 0 (aCons (dC (.int 3)) aNil))) (dC (.int 0)))))
    (sPutK 3 [] (dFl (dVar 5)) (dVar 4))
    sNil))
noncomputable def body_l_graced : Ev → Option Out := (sSeq (sSet 2 (dCall (Sh.den_l_pour) [0] [] (aOwn 0 (aCons (dC (.int 4)) aNil))))
    (sSeq (sSet 3 (dC (.dct [])))
    (sSeq (sFor (iSt seqD (dVar 1)) (bFl true (bName 4)) bd_l_graced_1)
    (sRt (dVar 3)))))
noncomputable def den_l_graced : List D → Option (D × List D) := dFn 6 [0] body_l_graced
noncomputable def bd_l_folded_1 : Ev → Option Out := (sSet 6 (d2 pAdd (dVar 6) (dVar 5)))
noncomputable def bd_l_folded_2 : Ev → Option (Bool × Ev) := (dBool (d2 pEqD (dFe (dSl pSlL (dVar 1) (oSo (dVar 6)) (oSo (d2 pAdd (dVar 6) (dVar 5))))) (dVar 4)))
noncomputable def bd_l_folded_3 : Ev → Option Out := (sSeq (sSet 4 (dFe (dSl pSlL (dVar 1) (oSo (dVar 3)) (oSo (d2 pAdd (d2 pAdd (dVar 3) (dC (.int 1))) (dCall (Sh.den_l_pour) [0] [] (aOwn 0 (aCons (dC (.int 4)) aNil))))))))
    (sSeq (sSet 5 (dL pLen (aCons (dVar 4) aNil)))
    (sSeq (sSet 6 (d2 pAdd (dVar 3) (dVar 5)))
    (sSeq (sWhile bd_l_folded_2 bd_l_folded_1)
    (sIf (tOrD (dBool (d2 pGt (dVar 6) (d2 pAdd (dVar 3) (dVar 5)))) (tAndD (dBool (d2 pLt (dL pLen (aCons (dVar 1) aNil)) (dC (.int 180)))) (dBool (d2 pEqS (dCall (Sh.den_l_pour) [0] [] (aOwn 0 (aCons (dC (.int 9)) aNil))) (dC (.int 0))))))
    (sSeq (sAppS 2 [] (dTup (aCons (d2 pIx (dLst (aCons (dFl (dL pTuple (aCons (dVar 4) aNil))) (aCons (dVar 4) aNil))) (dCall (Sh.den_l_pour) [0] [] (aOwn 0 (aCons (dC (.int 2)) aNil)))) (aCons (d2 pDiv (d2 pSub (dVar 6) (dVar 3)) (dVar 5)) aNil))))
    (sSet 3 (dFl (dVar 6))))
    (sSeq (sDo (dMutL mAppend 2 [] (aCons (dFl (d2 pIx (dVar 1) (dVar 3))) aNil)))
    (sSet 3 (d2 pAdd (dVar 3) (dC (.int 1))))))))))
noncomputable def bd_l_folded_4 : Ev → Option (Bool × Ev) := (dBool (d2 pLt (dVar 3) (dL pLen (aCons (dVar 1) aNil))))
noncomputable def body_l_folded : Ev → Option Out := (sSeq (sSet 2 (dLst aNil))
    (sSeq (sSet 3 (dC (.int 0)))
    (sSeq (sWhile bd_l_folded_4 bd_l_folded_3)
    (sRt (d2 pIx (dLst (aCons (dVar 2) (aCons (dL pTuple (aCons (dVar 2) aNil)) aNil))) (dCall (Sh.den_l_pour) [0] [] (aOwn 0 (aCons (dC (.int 2)) aNil))))))))
noncomputable def den_l_folded : List D → Option (D × List D) := dFn 7 [0] body_l_folded
noncomputable def bd_l_depth_of_1 : Ev → Option Out := (sSeq (sSet 4 (d2 pSub (dVar 3) (dVar 1)))
    (sIf (tAndD (dBool (d2 pGe (dVar 4) (dC (.int 1)))) (tOrD (dBool (d2 pEqS (dVar 3) (dC (.int 0)))) (dBool (d2 pGe (d2 pIx (dVar 2) (d2 pSub (dVar 3) (dC (.int 1)))) (dVar 4)))))
    (sRt (dFl (dVar 4)))
    sNil))
noncomputable def body_l_depth_of : Ev → Option Out := (sSeq (sSet 2 (dFe (dL (pSortedR true) (aCons (dLc [5] (iSt seqD (dVar 0)) (bFl true (bName 5)) dYes (dFl (dIf (dBool (d2 pIsN (dVar 5) (dC .non))) (d2 pPow (dC (.int 10)) (dC (.int 31))) (dVar 5)))) aNil))))
    (sSeq (sFor (iStL rng3P (aCons (dL pLen (aCons (dVar 2) aNil)) (aCons (d1 pNeg (dC (.int 1))) (aCons (d1 pNeg (dC (.int 1))) aNil)))) (bFl true (bName 3)) bd_l_depth_of_1)
    (sRt (dC (.int 0)))))
noncomputable def den_l_depth_of : List D → Option (D × List D) := dFn 6 [] body_l_depth_of
noncomputable def bd_l_depths_1 : Ev → Option Out := (sSeq (sDo (dMutL mAppend 2 [] (aCons (dIf (dBool (d2 (pDIn false) (dVar 5) (dVar 3))) (dCall (Sh.den_l_depth_of) [] [] (aCons (dFe (dSl pSlL (dVar 2) (oSo (d2 pAdd (d2 pDGet (dVar 3) (dVar 5)) (dC (.int 1)))) oNo)) (aCons (dFl (dGet2 (dVar 1) (dVar 5) (dC (.int 0)))) aNil))) (dC .non)) aNil)))
    (sPutK 3 [] (dFl (dVar 4)) (dVar 5)))
noncomputable def body_l_depths : Ev → Option Out := (sSeq (sSet 2 (dLst aNil))
    (sSeq (sSet 3 (dC (.dct [])))
    (sSeq (sFor (iStL enumP (aCons (dVar 0) aNil)) (bFl true (bTup 2 (bCons (bName 4) (bCons (bName 5) bNil)))) bd_l_depths_1)
    (sRt (dVar 2)))))
noncomputable def den_l_depths : List D → Option (D × List D) := dFn 6 [] body_l_depths
end Sh

set_option Elab.async false
set_option linter.all false
set_option maxRecDepth 100000
set_option maxHeartbeats 4000000
namespace VD
open PySem PySem.Spec L2 MC
open PyProof.Rows hiding St
def goDc (vs : List Nat) (bd : D → Ev → Option Ev) (dt : Ev → Option (Bool × Ev)) (dk da : Ev → Option (D × Ev)) : List D → List (Key × D) → Ev → Option (List (Key × D) × Ev)
  | [], acc, e => some (acc, e)
  | d :: ds, acc, e => match bd d e with
    | some e1 => match dt e1 with
      | some (true, e2) => match dk e2 with
        | some (kd, e3) => match keyD kd with
          | some k => match da e3 with
            | some (y, e4) => if isRo y || !decide (acc.length < sizeLine) then none else goDc vs bd dt dk da ds (putD acc k y) (wipeE e4 vs)
            | none => none
          | none => none
        | none => none
      | some (false, e2) => goDc vs bd dt dk da ds acc (wipeE e2 vs)
      | none => none
    | none => none
def dDc (vs : List Nat) (di : Ev → Option (List D × Ev)) (bd : D → Ev → Option Ev) (dt : Ev → Option (Bool × Ev)) (dk da : Ev → Option (D × Ev)) : Ev → Option (D × Ev) := fun e => match di e with
  | some (items, e1) => match goDc vs bd dt dk da items [] (wipeE e1 vs) with
    | some (ys, e2) => some (.dct ys, e2)
    | none => none
  | none => none
section
variable {X : Cx} {F : Fx} {R R1 Rl' : Rl} {NM : List Nat} {A Ae Ak Is M1 M2 Mk M3 : List Nat} {fl : Bool} {tg it kx elt : Expr} {ifs : List Expr} {pos : Pos} {scope : Scope} {own : List (Str × Nat)} {bd : D → Ev → Option Ev} {di : Ev → Option (List D × Ev)} {dt : Ev → Option (Bool × Ev)} {dk da : Ev → Option (D × Ev)}
end
section
variable {X : Cx}
end
end VD

set_option Elab.async false
set_option linter.all false
set_option maxRecDepth 100000
set_option maxHeartbeats 4000000
namespace VD
open PySem PySem.Spec L2 MC
open PyProof.Rows hiding St
section
variable {K : PySem.W.Frag} {F : Fx} {R : Rl} {PH : List Ph} {H H' : Hp} {σ : St} {e : Ev} {S : FPs}
end
def SOT (K : PySem.W.Frag) (F : Fx) (R : Rl) (NM : List Nat) (t : TA) (den : Ev → Option (List D × Ev)) (As : List (List Nat)) (m : Nat) (M : List Nat) : Prop :=
  ∀ (PH : List Ph), PH.map (·.ix) = NM → ∀ (σ : St) (H : Hp) (e : Ev) (S : FPs) (Q : List V → Hp → Prop) (ds : List D) (e' : Ev), Rp K F R PH H σ e S → den e = some (ds, e') →
    (∀ vs H' S' Ts, Stp M H S H' S' → Rp K F R PH H' σ e' S' → TmL K H H' S' As vs ds Ts → (∀ j, j ≠ m → ∀ b, SofTs Ts m b → SofTs Ts j b → Imm H' b) → Q vs H') → t σ H Q
structure VOT (X : Cx) (F : Fx) (R : Rl) (NM : List Nat) (es : List Expr) (den : Ev → Option (List D × Ev)) (As : List (List Nat)) (m : Nat) (M : List Nat) : Prop where
  at_ : As[m]? = some []
  ex : ∃ t, PA X es t ∧ SOT X.K F R NM t den As m M
section
variable {X : Cx} {F : Fx} {R : Rl} {NM : List Nat} {a b : Expr} {es : List Expr} {pos : Pos} {da db : Ev → Option (D × Ev)} {ds : Ev → Option (List D × Ev)} {A A1 A2 M M1 M2 : List Nat} {As : List (List Nat)} {Os : List (Option Nat)} {m : Nat}
def dCallT (G : List D → Option (D × List D)) (ds : Ev → Option (List D × Ev)) : Ev → Option (D × Ev) := fun e => match ds e with
  | some (vs, e1) => match G vs with
    | some (r, _) => some (r, e1)
    | none => none
  | none => none
end
end VD

set_option Elab.async false
set_option linter.all false
set_option maxRecDepth 100000
set_option maxHeartbeats 4000000
namespace VD
open PySem PySem.Spec L2 MC
open PyProof.Rows hiding St
section
variable {X : Cx} {F : Fx} {R : Rl} {NM : List Nat} {a b : Expr} {rest : List Expr} {pos : Pos} {da db : Ev → Option (D × Ev)} {A1 A2 M1 M2 : List Nat}
def dOrX (da db : Ev → Option (D × Ev)) : Ev → Option (D × Ev) := fun e => match da e with
  | some (x, e1) => match x.truth with
    | some true => some (x, e1)
    | some false => db e1
    | none => none
  | none => none
end
end VD

set_option Elab.async false
set_option linter.all false
set_option maxRecDepth 100000
set_option maxHeartbeats 4000000
set_option exponentiation.threshold 20000
namespace Sh
open PySem PySem.Spec L2 MC VD
open PyProof.Rows hiding St
end Sh

set_option Elab.async false
set_option linter.all false
set_option maxRecDepth 100000
set_option maxHeartbeats 4000000
set_option exponentiation.threshold 20000
namespace VD
open PySem PySem.Spec L2 MC
open PyProof.Rows hiding St
section
variable {X : Cx}
end
section
variable {X : Cx} {F : Fx} {R : Rl} {NM : List Nat} {a : Expr} {es : List Expr} {p1 apos pos : Pos} {ds : Ev → Option (List D × Ev)} {M : List Nat} {As : List (List Nat)} {id : String} {name : Str} {r : V → List V → Hp → VK → Prop}
end
end VD

set_option Elab.async false
set_option linter.all false
set_option maxRecDepth 100000
set_option maxHeartbeats 4000000
namespace PySem.W
open PySem PySem.Calls PyProof.Rows PyProof.V PySem.Spec
def ZxSt (z TI TO i1 i2 l1 l2 S : Addr) (xs ys : Array Value) (i : Nat) (h : Heap) : Prop :=
  (h.IsListIter i1 l1 i ∧ h.IsList l1 xs) ∧ (h.IsListIter i2 l2 i ∧ h.IsList l2 ys) ∧ IsPair h TI (.ref i1) (.ref i2) ∧
    ((IsZip h z TI TO .none ∧ ∃ u v, IsPair h TO u v) ∨ ∃ T f oT, (IsZipHeld h z TI TO T f ∧ h.get? T = some oT) ∧ T ≠ z ∧ T ≠ i1 ∧ T ≠ i2 ∧ T ≠ S)
def ZxLow (z TI TO i1 i2 l1 l2 S : Addr) : Prop := (z < S ∧ TI < S ∧ TO < S) ∧ (i1 < S ∧ i2 < S) ∧ l1 < S ∧ l2 < S
section
variable {prog : Program} {w : World} {A : Around} {E : Value → Shared → Prop} {s : Shared} {z TI TO i1 i2 l1 l2 S : Addr} {xs ys : Array Value} {i : Nat}
theorem ZxSt.keep {h h' : Heap} (st : ZxSt z TI TO i1 i2 l1 l2 S xs ys i h) (lo : ZxLow z TI TO i1 i2 l1 l2 S) (hk : ∀ b o, b ≠ S → h.get? b = some o → h'.get? b = some o) : ZxSt z TI TO i1 i2 l1 l2 S xs ys i h' := by
  obtain ⟨⟨p1, p2⟩, ⟨p3, p4⟩, p5, p6⟩ := st
  obtain ⟨⟨a1, a2, a3⟩, ⟨a4, a5⟩, a6, a7⟩ := lo
  refine ⟨⟨p1.at fun o e => hk _ o (Nat.ne_of_lt a4) e, p2.at fun o e => hk _ o (Nat.ne_of_lt a6) e⟩, ⟨p3.at fun o e => hk _ o (Nat.ne_of_lt a5) e, p4.at fun o e => hk _ o (Nat.ne_of_lt a7) e⟩, hk _ _ (Nat.ne_of_lt a2) p5, ?_⟩
  rcases p6 with ⟨p6, u, v, p7⟩ | ⟨T, f, oT, ⟨p6, p7⟩, r1, r2, r3, r4⟩
  · exact .inl ⟨hk _ _ (Nat.ne_of_lt a1) p6, u, v, hk _ _ (Nat.ne_of_lt a3) p7⟩
  · exact .inr ⟨T, f, oT, ⟨hk _ _ (Nat.ne_of_lt a1) p6, hk _ _ r4 p7⟩, r1, r2, r3, r4⟩
theorem zx_item {x y : Value} {Q : Option Value → Shared → Prop} (D : ZipApart z TI TO i1 i2 l1 l2) (st : ZxSt z TI TO i1 i2 l1 l2 S xs ys i s.heap) (hS : S < s.heap.objs.size) (ex : xs[i]? = some x) (ey : ys[i]? = some y)
    (k : ∀ h', ZxSt z TI TO i1 i2 l1 l2 S xs ys (i + 1) h' → IsPair h' s.heap.objs.size x y → h'.objs.size = s.heap.objs.size + 1 → (∀ b o, b ≠ z → b ≠ TO → b ≠ i1 → b ≠ i2 → s.heap.get? b = some o → h'.get? b = some o) → Q (some (.ref s.heap.objs.size)) { s with heap := h' }) :
    wpAny (model prog w) A (pyNext (.ref z)) Q E s := by
  obtain ⟨⟨p1, p2⟩, ⟨p3, p4⟩, p5, p6⟩ := st
  have new : ∀ {c o}, s.heap.get? c = some o → s.heap.objs.size ≠ c := fun e => Nat.ne_of_gt (Heap.lt_size e)
  have n1 : s.heap.objs.size ≠ i1 := let ⟨_, e, _⟩ := p1; new e
  have n2 : s.heap.objs.size ≠ i2 := let ⟨_, e, _⟩ := p3; new e
  rcases p6 with ⟨p6, u, v, p7⟩ | ⟨T, f, oT, ⟨p6, p7⟩, r1, r2, r3, r4⟩
  · refine wpAny_pyNext_zip_item D p6 p5 p7 p1 p3 p2 p4 ex ey fun h' a1 a2 a3 a4 a5 a6 hk => k h' ⟨⟨a3, ?_⟩, ⟨a4, ?_⟩, ?_, .inr ⟨s.heap.objs.size, false, _, ⟨a1, a5⟩, new p6, n1, n2, Nat.ne_of_gt hS⟩⟩ a5 a6 hk
    · exact p2.at fun o e => hk l1 o D.l1z D.l1TO D.l1i1 D.l1i2 e
    · exact p4.at fun o e => hk l2 o D.l2z D.l2TO D.l2i1 D.l2i2 e
    · exact hk TI _ D.TIz D.TITO D.TIi1 D.TIi2 p5
  · refine wpAny_pyNext_zip_item_held D p6 p7 p5 p1 p3 p2 p4 ex ey fun h' a1 a3 a4 a5 a6 hk => k h' ⟨⟨a3, ?_⟩, ⟨a4, ?_⟩, ?_, .inr ⟨T, true, oT, ⟨a1, hk T _ r1 r2 r3 p7⟩, r1, r2, r3, r4⟩⟩ a5 a6 fun c o c1 _ c3 c4 e => hk c o c1 c3 c4 e
    · exact p2.at fun o e => hk l1 o D.l1z D.l1i1 D.l1i2 e
    · exact p4.at fun o e => hk l2 o D.l2z D.l2i1 D.l2i2 e
    · exact hk TI _ D.TIz D.TIi1 D.TIi2 p5
theorem zx_done {Q : Option Value → Shared → Prop} (hh : A.handled = none) (D : ZipApart z TI TO i1 i2 l1 l2) (st : ZxSt z TI TO i1 i2 l1 l2 S xs ys i s.heap) (he : min xs.size ys.size ≤ i)
    (k : ∀ h', (∀ b o, b ≠ z → b ≠ TO → b ≠ i1 → b ≠ i2 → s.heap.get? b = some o → h'.get? b = some o) → Q none { s with heap := h' }) : wpAny (model prog w) A (pyNext (.ref z)) Q E s := by
  obtain ⟨⟨p1, p2⟩, ⟨p3, p4⟩, p5, p6⟩ := st
  have hend : xs[i]? = none ∨ ys[i]? = none := by
    rcases Nat.le_total xs.size ys.size with h | h
    · exact .inl (Array.getElem?_eq_none (by omega))
    · exact .inr (Array.getElem?_eq_none (by omega))
  rcases p6 with ⟨p6, u, v, p7⟩ | ⟨T, f, oT, ⟨p6, p7⟩, r1, r2, r3, r4⟩
  · exact wpAny_pyNext_zip_end hh D p6 p5 p7 p1 p3 p2 p4 hend k
  · exact wpAny_pyNext_zip_end_held hh D p6 p7 p5 p1 p3 p2 p4 hend fun h' hk => k h' fun c o c1 _ c3 c4 e => hk c o c1 c3 c4 e
structure ZxG (xs ys : Array Value) (lo : Addr) (h : Heap) (as : List Addr) : Prop where
  up : as.Pairwise (· < ·)
  hi : ∀ a ∈ as, lo < a
  at_ : ∀ (j : Nat) (a : Addr), as[j]? = some a → ∃ x y, xs[j]? = some x ∧ ys[j]? = some y ∧ IsPair h a x y
theorem ZxG.low {lo : Addr} {h : Heap} {as : List Addr} (g : ZxG xs ys lo h as) {a : Addr} (ha : a ∈ as) : a < h.objs.size := by
  obtain ⟨j, hj⟩ := List.mem_iff_getElem?.mp ha
  obtain ⟨_, _, _, _, e⟩ := g.at_ j a hj
  exact Heap.lt_size e
theorem zx_loop {R : Result → Shared → Prop} (hh : A.handled = none) (D : ZipApart z TI TO i1 i2 l1 l2) (lo : ZxLow z TI TO i1 i2 l1 l2 S) (hn : min xs.size ys.size ≤ sizeLine) (res : Value) {h₁ : Heap}
    (hR : ∀ h' tk acc c as, (∀ b o, b ≠ S → (b ≠ z ∧ b ≠ TO ∧ b ≠ i1 ∧ b ≠ i2) → h₁.get? b = some o → h'.get? b = some o) → h'.get? S = some { cls := .type "list", dict := none, data := .seq acc c, slots := #[] } → (as.length = min xs.size ys.size ∧ acc.toList = as.map Value.ref) → ZxG xs ys S h' as →
      R (.ok (.ret res)) { s with heap := h', toks := tk }) :
    ∀ (k i : Nat) (h : Heap) (tk c : Nat) (acc : Array Value) (as : List Addr), min xs.size ys.size - i = k → i ≤ min xs.size ys.size → ZxSt z TI TO i1 i2 l1 l2 S xs ys i h → (∀ b o, b ≠ S → (b ≠ z ∧ b ≠ TO ∧ b ≠ i1 ∧ b ≠ i2) → h₁.get? b = some o → h.get? b = some o) →
      h.get? S = some { cls := .type "list", dict := none, data := .seq acc c, slots := #[] } → (as.length = i ∧ acc.toList = as.map Value.ref) → ZxG xs ys S h as →
      codeAny (model prog w) A (.builtin "list.extend.loop" ⟨[.ref S, .ref z, res], []⟩) R { s with heap := h, toks := tk } := by
  have off : ∀ {b : Addr}, S < b → (b ≠ z ∧ b ≠ TO ∧ b ≠ i1 ∧ b ≠ i2) := fun hb => by
    obtain ⟨⟨a1, a2, a3⟩, ⟨a4, a5⟩, a6, a7⟩ := lo
    exact ⟨Nat.ne_of_gt (Nat.lt_trans a1 hb), Nat.ne_of_gt (Nat.lt_trans a3 hb), Nat.ne_of_gt (Nat.lt_trans a4 hb), Nat.ne_of_gt (Nat.lt_trans a5 hb)⟩
  have offS : S ≠ z ∧ S ≠ TO ∧ S ≠ i1 ∧ S ≠ i2 := by
    obtain ⟨⟨a1, a2, a3⟩, ⟨a4, a5⟩, a6, a7⟩ := lo
    exact ⟨Nat.ne_of_gt a1, Nat.ne_of_gt a3, Nat.ne_of_gt a4, Nat.ne_of_gt a5⟩
  intro k
  induction k with
  | zero =>
    intro i h tk c acc as hk hi hst kept hS hal g
    have hin : i = min xs.size ys.size := by omega
    refine codeAny_builtin PySem.F.entry_extend_loop ?_
    rw [Around.under_plainId PySem.F.plain_extend_loop _]
    show wpAny _ A.in1 (pyNext (.ref z) >>= _) _ _ _
    refine wpAny_bind (zx_done (s := { s with heap := h, toks := tk }) (A := A.in1) hh D hst (by omega) fun h' he => ?_)
    refine wpAny_pure (hR h' tk acc c as (fun b o h1 h2 e => he b o h2.1 h2.2.1 h2.2.2.1 h2.2.2.2 (kept b o h1 h2 e)) (he S _ offS.1 offS.2.1 offS.2.2.1 offS.2.2.2 hS) ⟨by omega, hal.2⟩ ⟨g.up, g.hi, fun j a hj => ?_⟩)
    obtain ⟨x, y, e1, e2, e3⟩ := g.at_ j a hj
    obtain ⟨o1, o2, o3, o4⟩ := off (g.hi a (List.mem_of_getElem? hj))
    exact ⟨x, y, e1, e2, he a _ o1 o2 o3 o4 e3⟩
  | succ k ih =>
    intro i h tk c acc as hk hi hst kept hS hal g
    have h1 : i < xs.size := by omega
    have h2 : i < ys.size := by omega
    have asz : acc.size = i := by rw [← Array.length_toList, hal.2, List.length_map, hal.1]
    have hSl : S < h.objs.size := Heap.lt_size hS
    refine codeAny_builtin PySem.F.entry_extend_loop ?_
    rw [Around.under_plainId PySem.F.plain_extend_loop _]
    show wpAny _ A.in1 (pyNext (.ref z) >>= _) _ _ _
    refine wpAny_bind (zx_item (s := { s with heap := h, toks := tk }) D hst hSl (Array.getElem?_eq_getElem h1) (Array.getElem?_eq_getElem h2) fun h' hst' ht hz he => ?_)
    dsimp only at ht hz he ⊢
    have hS' := he S _ offS.1 offS.2.1 offS.2.2.1 offS.2.2.2 hS
    have up : ∀ b o, b ≠ S → h'.get? b = some o → (h'.update S (Obj.mapSeq (·.push (Value.ref h.objs.size)))).get? b = some o := fun b o hb e => (Heap.get?_update_other _ _ (Ne.symm hb)).trans e
    show wpAny _ A.in1 (updateSeq S (·.push (Value.ref h.objs.size)) >>= _) _ _ _
    refine wpAny_bind ?_
    refine wpAny_updateSeq hS' rfl (wpAny_pure ⟨plainId_quiet PySem.F.plain_extend_loop _, ih (i + 1) _ tk _ (acc.push (Value.ref h.objs.size)) (as ++ [h.objs.size]) (by omega) (by omega) (hst'.keep lo up)
      (fun b o h1 h2 e => up b o h1 (he b o h2.1 h2.2.1 h2.2.2.1 h2.2.2.2 (kept b o h1 h2 e))) (Heap.get?_update_self _ hS' rfl) ⟨by rw [List.length_append, hal.1]; rfl, by rw [Array.toList_push, hal.2, List.map_append]; rfl⟩ ⟨?_, ?_, ?_⟩⟩) (by rw [asz]; omega) (by show (acc.push (Value.ref h.objs.size)).size ≤ sizeLine + 1; rw [Array.size_push, asz]; omega)
    · refine List.pairwise_append.mpr ⟨g.up, List.pairwise_singleton _ _, fun a ha b hb => ?_⟩
      rw [List.mem_singleton.mp hb]
      exact g.low ha
    · intro a ha
      rcases List.mem_append.mp ha with ha | ha
      · exact g.hi a ha
      · rw [List.mem_singleton.mp ha]; exact hSl
    · intro j b hj
      rcases Nat.lt_trichotomy j as.length with q | q | q
      · rw [List.getElem?_append_left q] at hj
        obtain ⟨x, y, e1, e2, e3⟩ := g.at_ j b hj
        have hb := g.hi b (List.mem_of_getElem? hj)
        obtain ⟨o1, o2, o3, o4⟩ := off hb
        exact ⟨x, y, e1, e2, up b _ (Nat.ne_of_gt hb) (he b _ o1 o2 o3 o4 e3)⟩
      · subst q
        have hb : h.objs.size = b := by simpa using hj
        subst hb
        rw [hal.1]
        exact ⟨_, _, Array.getElem?_eq_getElem h1, Array.getElem?_eq_getElem h2, up _ _ (Nat.ne_of_gt hSl) ht⟩
      · have hnone : (as ++ [h.objs.size])[j]? = none := List.getElem?_eq_none (by rw [List.length_append, List.length_singleton]; omega)
        rw [hnone] at hj; cases hj
theorem zip_no_len : typeLookup (.type "zip") "__len__" = pure none := by rw [typeLookup_type, builtinLookup_eq_fast]; kernel_rfl
theorem zip_no_hint : typeLookup (.type "zip") "__length_hint__" = pure none := by rw [typeLookup_type, builtinLookup_eq_fast]; kernel_rfl
theorem zx_init {R : Result → Shared → Prop} (hh : A.handled = none) (D : ZipApart z TI TO i1 i2 l1 l2) (lo : ZxLow z TI TO i1 i2 l1 l2 S) (hn : min xs.size ys.size ≤ sizeLine) (st : ZxSt z TI TO i1 i2 l1 l2 S xs ys 0 s.heap) (hz : IsZip s.heap z TI TO .none) (hS : s.heap.get? S = some { cls := .type "list", data := .seq #[] })
    (hR : ∀ h' tk acc c as, (∀ b o, b ≠ S → (b ≠ z ∧ b ≠ TO ∧ b ≠ i1 ∧ b ≠ i2) → s.heap.get? b = some o → h'.get? b = some o) → h'.get? S = some { cls := .type "list", dict := none, data := .seq acc c, slots := #[] } → (as.length = min xs.size ys.size ∧ acc.toList = as.map Value.ref) → ZxG xs ys S h' as →
      R (.ok (.ret .none)) { s with heap := h', toks := tk }) :
    wpAny (model prog w) A.in1 (Builtin.«list.__init__» ⟨[.ref S, .ref z], []⟩)
      (fun fin s' => match fin with | .done f => R (.ok f) s' | .again c' => c'.quiet = true ∧ codeAny (model prog w) A c' R s') (fun e s' => R (.error e) s') s := by
  have hzS : S ≠ z := Nat.ne_of_gt lo.1.1
  show wpAny _ _ (do let old ← Builtin.List.listItems (.ref S); Builtin.List.listUpdate (.ref S) (fun _ => #[]); letGo old.toList.reverse; Builtin.List.listExtendWith (.ref S) (.ref z) .none) _ _ s
  refine wpAny_bind ?_
  unfold Builtin.List.listItems
  refine wpAny_bind (wpAny_seqItems hS rfl (wpAny_pure ?_))
  show wpAny _ _ (updateSeq S (fun _ => #[]) >>= fun _ => letGo (#[] : Array Value).toList.reverse >>= fun _ => Builtin.List.listExtendWith (.ref S) (.ref z) .none) _ _ s
  refine wpAny_bind (wpAny_updateSeq hS rfl ?_)
  have hS₂ := Heap.get?_update_self (Obj.mapSeq (fun _ => (#[] : Array Value))) hS rfl
  have oth : ∀ b o, b ≠ S → s.heap.get? b = some o → (s.heap.update S (Obj.mapSeq (fun _ => (#[] : Array Value)))).get? b = some o :=
    fun b o hb e => (Heap.get?_update_other _ _ (Ne.symm hb)).trans e
  refine wpAny_bind (wpAny_letGo ?_)
  have hz₂ := oth z _ hzS.symm hz
  have st₂ := st.keep lo oth
  generalize hh2 : s.heap.update S (Obj.mapSeq (fun _ => (#[] : Array Value))) = h2 at hS₂ oth hz₂ st₂
  clear hh2
  have hT : ({ s with heap := h2 } : Shared).TypeIs (.ref z) "zip" := ⟨_, hz₂, rfl⟩
  unfold Builtin.List.listExtendWith
  refine wpAny_bind (wpAny_typeOf hT ?_)
  have q1 : Builtin.List.listSameRef (.ref S) (.ref z) = false := by simp [Builtin.List.listSameRef, hzS]
  have q2 : (Value.type "zip" == Value.type "list") = false := by decide
  have q3 : (Value.type "zip" == Value.type "tuple") = false := by decide
  simp only [q1, q2, q3, Bool.or_false, Bool.false_eq_true, if_false]
  refine wpAny_bind (wpAny_pyIter_zip hz₂ ?_)
  refine wpAny_bind (wpAny_holding ?_)
  unfold Builtin.List.listLengthHint
  refine wpAny_bind (wpAny_specialOf hT zip_no_len ?_)
  show wpAny _ A.in1 (specialOf (Value.ref z) (Str.ofString "__length_hint__") >>= _) _ _ _
  refine wpAny_bind (wpAny_specialOf hT zip_no_hint ?_)
  refine wpAny_pure ?_
  show wpAny _ A.in1 (rule "list.extend.makes-room" >>= fun _ => Builtin.List.listTouch (.ref S) >>= fun _ =>
    again (.builtin "list.extend.loop" ⟨[.ref S, .ref z, .none], []⟩)) _ _ _
  refine wpAny_bind (wpAny_rule ?_)
  refine wpAny_bind ?_
  show wpAny _ A.in1 (updateSeq S (·.push .none) >>= fun _ => updateSeq S (·.pop)) _ _ _
  refine wpAny_bind (wpAny_updateSeq hS₂ rfl ?_)
  have hS₃ := Heap.get?_update_self (Obj.mapSeq (·.push Value.none)) hS₂ rfl
  refine wpAny_updateSeq (hz := by seq_fits) hS₃ rfl ?_
  have hS₄ := Heap.get?_update_self (Obj.mapSeq (·.pop)) hS₃ rfl
  have oth₂ : ∀ b o, b ≠ S → h2.get? b = some o → ((h2.update S (Obj.mapSeq (·.push Value.none))).update S (Obj.mapSeq (·.pop))).get? b = some o :=
    fun b o hb e => (Heap.get?_update_other _ _ (Ne.symm hb)).trans ((Heap.get?_update_other _ _ (Ne.symm hb)).trans e)
  refine wpAny_pure ⟨plainId_quiet PySem.F.plain_extend_loop _, ?_⟩
  exact zx_loop (s := s) (h₁ := s.heap) hh D lo hn .none hR _ 0 _ _ _ _ [] rfl (Nat.zero_le _) (st₂.keep lo oth₂) (fun b o hb _ e => oth₂ b o hb (oth b o hb e)) hS₄ ⟨rfl, rfl⟩ ⟨List.Pairwise.nil, (fun _ ha => nomatch ha), (fun j a hj => by simp at hj)⟩
theorem zx_call {Q : Value → Shared → Prop} (hh : A.handled = none) (D : ZipApart z TI TO i1 i2 l1 l2) (lo : ZxLow z TI TO i1 i2 l1 l2 s.heap.objs.size) (hn : min xs.size ys.size ≤ sizeLine) (st : ZxSt z TI TO i1 i2 l1 l2 s.heap.objs.size xs ys 0 s.heap) (hz : IsZip s.heap z TI TO .none)
    (hQ : ∀ h' tk acc c as, (∀ b o, (b ≠ z ∧ b ≠ TO ∧ b ≠ i1 ∧ b ≠ i2) → s.heap.get? b = some o → h'.get? b = some o) → h'.get? s.heap.objs.size = some { cls := .type "list", dict := none, data := .seq acc c, slots := #[] } → (as.length = min xs.size ys.size ∧ acc.toList = as.map Value.ref) → ZxG xs ys s.heap.objs.size h' as →
      Q (.ref s.heap.objs.size) { s with heap := h', toks := tk }) : wpAny (model prog w) A (call (.type "list") [.ref z]) Q E s := by
  refine callType_codes (Q₁ := fun obj s₁ => obj = .ref s.heap.objs.size ∧ s₁ = { s with heap := s.heap.push { cls := .type "list", data := .seq #[] } }) PySem.F.called_list (PySem.F.typeCall_list_1 _) PySem.F.entry_list_init
    (code_list_new _ ⟨rfl, rfl⟩) fun obj s₁ e => ?_
  obtain ⟨rfl, rfl⟩ := e
  have hS : (s.heap.push { cls := .type "list", data := .seq #[] }).get? s.heap.objs.size = some { cls := .type "list", data := .seq #[] } := Heap.get?_push_size _ rfl
  have kp : ∀ b o, s.heap.get? b = some o → (s.heap.push { cls := .type "list", data := .seq #[] }).get? b = some o := fun b o e => Heap.get?_push_of_some _ e
  refine ⟨⟨_, hS, rfl⟩, PySem.F.args_list_init_2 _ _, zx_init (A := A.in1) hh D lo hn (st.keep lo fun b o _ e => kp b o e) (kp _ _ hz) hS fun h' tk acc c as hk hS' hl g => ?_⟩
  exact ⟨rfl, hQ h' tk acc c as (fun b o hb e => hk b o (Nat.ne_of_lt (Heap.lt_size e)) hb (kp b o e)) hS' hl g⟩
end
end PySem.W

namespace MC
open PySem PySem.Spec PyProof.Rows L2
def putP : Hp → List Addr → List (V × V) → Hp
  | H, a :: as, p :: ps => putP (upd H a (.tup [p.1, p.2])) as ps
  | H, _, _ => H
theorem putP_off {b : Addr} : ∀ (as : List Addr) (ps : List (V × V)) (H : Hp), b ∉ as → putP H as ps b = H b
  | [], _, _, _ => rfl
  | _ :: _, [], _, _ => rfl
  | a :: as, p :: ps, H, h => by
    show putP (upd H a (.tup [p.1, p.2])) as ps b = H b
    rw [putP_off as ps _ (fun z => h (List.mem_cons_of_mem _ z)), upd_ne (fun z => h (by rw [z]; exact List.mem_cons_self))]
theorem putP_at : ∀ (as : List Addr) (ps : List (V × V)) (H : Hp), as.length = ps.length → as.Nodup → Paired (fun (t : Addr) (p : V × V) => putP H as ps t = some (.tup [p.1, p.2])) as ps
  | [], [], _, _, _ => .nil
  | [], _ :: _, _, h, _ => by cases h
  | _ :: _, [], _, h, _ => by cases h
  | a :: as, p :: ps, H, h, hn => by
    have hn' := List.nodup_cons.mp hn
    refine .cons ?_ (putP_at as ps (upd H a (.tup [p.1, p.2])) (Nat.succ.inj h) hn'.2)
    show putP (upd H a (.tup [p.1, p.2])) as ps a = some (.tup [p.1, p.2])
    rw [putP_off as ps _ hn'.1, upd_same]
theorem zip_at {α β : Type} {xs : List α} {ys : List β} {j : Nat} {p : α × β} (h : (xs.zip ys)[j]? = some p) : xs[j]? = some p.1 ∧ ys[j]? = some p.2 := by
  obtain ⟨a, b⟩ := p
  exact List.getElem?_zip_eq_some.mp h
section
variable {X : Cx} {e e2 : Expr} {ta : TA} {p p2 pos pos2 : Pos}
theorem pairs_laid {pins : List (Addr × Obj)} {σ : L2.St} {H : Hp} {s : Shared} {h' : Heap} {tk : Nat} {vs ws : List V} {xs ys : List Value} {acc : Array Value} {c : Nat} {as : List Addr} {S : Addr} (I : Inv X pins σ H s) (hS0 : s.heap.objs.size ≤ S) (hz : vs.length ≤ sizeLine) (rx : Vals vs xs) (ry : Vals ws ys)
    (hk : ∀ b o, s.heap.get? b = some o → h'.get? b = some o) (hS : h'.get? S = some { cls := .type "list", dict := none, data := .seq acc c, slots := #[] }) (hl : as.length = min xs.length ys.length) (g : PySem.W.ZxG xs.toArray ys.toArray S h' as) (hacc : acc.toList = as.map Value.ref) :
    ∃ H' : Hp, (∀ b o, H b = some o → H' b = some o) ∧ H S = none ∧ (∀ t ∈ as, H t = none) ∧ S ∉ as ∧ H' S = some (.lst (as.map V.ref)) ∧ Paired (fun (t : Addr) (q : V × V) => H' t = some (.tup [q.1, q.2])) as (vs.zip ws) ∧ Inv X pins σ H' { s with heap := h', toks := tk } := by
  have e1 := rx.length
  have e2 := ry.length
  have lk : as.length = (vs.zip ws).length := by rw [List.length_zip, hl, e1, e2]
  have hSn : S ∉ as := fun z => Nat.lt_irrefl _ (g.hi _ z)
  have nd : as.Nodup := List.Pairwise.imp (fun {a b} (h : a < b) => Nat.ne_of_lt h) g.up
  have new : ∀ t ∈ as, H t = none := fun t ht => I.hok.fresh (Nat.le_trans hS0 (Nat.le_of_lt (g.hi t ht)))
  have newS : H S = none := I.hok.fresh hS0
  have atP := putP_at as (vs.zip ws) (upd H S (.lst (as.map V.ref))) lk nd
  have off : ∀ b, b ∉ as → b ≠ S → putP (upd H S (.lst (as.map V.ref))) as (vs.zip ws) b = H b := fun b h1 h2 => by rw [putP_off as _ _ h1, upd_ne h2]
  have low : ∀ b o, s.heap.get? b = some o → b ∉ as ∧ b ≠ S := fun b o e => by
    have hb := Heap.lt_size e
    exact ⟨fun z => Nat.lt_irrefl _ (Nat.lt_of_lt_of_le hb (Nat.le_trans hS0 (Nat.le_of_lt (g.hi b z)))), Nat.ne_of_lt (Nat.lt_of_lt_of_le hb hS0)⟩
  have kp : ∀ b u, H b = some u → (putP (upd H S (.lst (as.map V.ref))) as (vs.zip ws)) b = some u := fun b u e => by
    rw [off b (fun z => by rw [new b z] at e; cases e) (fun z => by rw [z, newS] at e; cases e)]
    exact e
  have eS : putP (upd H S (.lst (as.map V.ref))) as (vs.zip ws) S = some (.lst (as.map V.ref)) := by rw [putP_off as _ _ hSn, upd_same]
  refine ⟨putP (upd H S (.lst (as.map V.ref))) as (vs.zip ws), kp, newS, new, hSn, eS, atP, ?_⟩
  refine I.call' (ch := []) rfl ⟨fun b o q _ _ _ => hk b o q, fun b o q _ _ _ => ⟨o.slots, hk b o q⟩, fun b o q n _ => ?_, fun b o q _ => ⟨o, hk b o q⟩, fun b xs q => kp b _ q, fun b o u q => kp b _ q, fun b ps q => ⟨#[], by rw [kp b _ q]; simp⟩⟩ (fun b u q => ?_) I.bare fun b z => by simp at z
  · obtain ⟨z1, z2⟩ := low b o q
    rw [off b z1 z2]
    exact n
  · by_cases hb : b ∈ as
    · obtain ⟨j, pk, e1, e2, e3⟩ := LiI.paired_ix atP hb
      rw [e3] at q
      cases q
      obtain ⟨x, y, f1, f2, f3⟩ := g.at_ j b e1
      obtain ⟨g1, g2⟩ := zip_at e2
      obtain ⟨x', g3, g4⟩ := rx.get g1
      obtain ⟨y', g5, g6⟩ := ry.get g2
      have : x = x' := by simpa [g3] using f1.symm
      subst this
      have : y = y' := by simpa [g5] using f2.symm
      subst this
      exact ⟨by show 2 ≤ sizeLine; decide, [x, y], .cons g4 (.cons g6 .nil), ⟨_, f3, rfl, _, rfl⟩⟩
    · by_cases hb2 : b = S
      · rw [hb2] at q ⊢
        rw [eS] at q
        cases q
        refine ⟨by rw [List.length_map]; omega, acc.toList, c, by rw [hacc]; exact LiI.vals_refs as, ?_⟩
        rw [Array.toArray_toList]
        exact hS
      · rw [off b hb hb2] at q
        exact (I.hok b u q).stay (fun d v _ y => hk d v y) (fun d y => kp d _ y) fun d xs y => kp d _ y
def tListZip (K : PySem.W.Frag) (ta : TA) : TE := fun σ H Q => ta σ H fun us H1 => ∃ (a b : Addr) (vs ws : List V), us = [.ref a, .ref b] ∧ SqL K H1 a vs ∧ SqL K H1 b ws ∧
  ∀ (H' : Hp) (S : Addr) (ts : List Addr), Same H1 H' → H1 S = none → (∀ t ∈ ts, H1 t = none) → S ∉ ts → H' S = some (.lst (ts.map V.ref)) → Paired (fun (t : Addr) (q : V × V) => H' t = some (.tup [q.1, q.2])) ts (vs.zip ws) → Q (.ref S) H'
theorem pe_listZip (hc : X.calm = true) (hg : Gl X "list") (hm : X.mg "list" = none) (hg2 : Gl X "zip") (hm2 : X.mg "zip" = none) (ha : PA X [e, e2] ta) (hv : bootBuiltins "list" = some (.type "list"))
    (hs : starEach [.Call (.Name "zip" p2) [e, e2] [] pos2] X.env = (false, eval (.Call (.Name "zip" p2) [e, e2] [] pos2) X.env) :: starEach [] X.env := by rfl)
    (hs2 : starEach [e, e2] X.env = (false, eval e X.env) :: starEach [e2] X.env := by rfl) (hpl : (backTo pos2 (starEach [e2] X.env)).any (·.1) = false := by rfl) :
    PE X (.Call (.Name "list" p) [.Call (.Name "zip" p2) [e, e2] [] pos2] [] pos) (tListZip X.K ta) := by
  refine ⟨fun pins s σ H Q I hq => ?_⟩
  refine wpAny_Call_Name_kw (ld_blt I hg hm hv ?_)
  refine PyProof.Rows.callWith_type1 ?_ hs rfl
  rw [hs]
  show wpAny _ _ (spliced ((false, eval (.Call (.Name "zip" p2) [e, e2] [] pos2) X.env) :: backTo pos (starEach [] X.env))) _ _ s
  refine Calls.spliced_cons ?_
  refine Call_ (ld_blt I hg2 hm2 PyProof.Rows.boot_zip (PyProof.Rows.callWith_type1 (thn (ha.run pos2 pins s σ H _ I hq) fun us s1 ⟨vs, H1, I1, r1, q1⟩ => ?_) hs2 hpl))
  obtain ⟨a, b, xs, ys, ex, hqx, hqy, q⟩ := q1
  subst ex
  cases r1 with
  | cons r rr =>
    cases rr with
    | cons r' rr =>
      cases rr
      cases r
      cases r'
      obtain ⟨its, rv, pl1, z1⟩ := I1.list hqx
      obtain ⟨its2, rv2, pl2, z2⟩ := I1.list hqy
      have l1 := pl1.lt
      have l2 := pl2.lt
      refine call_zip_2 pl1.isList pl2.isList fun h' hz hTI hTO h1 h2 hsz hk => ?_
      refine Calls.spliced_nil ?_
      have e1 := rv.length
      have e2 := rv2.length
      refine PySem.W.zx_call (xs := its.toArray) (ys := its2.toArray) (s := { s1 with heap := h' }) (I1.ok.hd hc) (PySem.W.ktu_apart s1.heap.objs.size a b l1 l2) ?_ ?_ ⟨⟨h1, pl1.isList.at fun o e => hk _ o e⟩, ⟨h2, pl2.isList.at fun o e => hk _ o e⟩, hTI, .inl ⟨hz, _, _, hTO⟩⟩ hz fun h'' tk acc c as hk2 hS hl g => ?_
      · show (_ < h'.objs.size ∧ _ < h'.objs.size ∧ _ < h'.objs.size) ∧ (_ < h'.objs.size ∧ _ < h'.objs.size) ∧ _ < h'.objs.size ∧ _ < h'.objs.size
        rw [hsz]
        exact ⟨⟨Nat.add_lt_add_left (by decide) _, Nat.add_lt_add_left (by decide) _, Nat.add_lt_add_left (by decide) _⟩, ⟨Nat.lt_add_of_pos_right (by decide), Nat.add_lt_add_left (by decide) _⟩, Nat.lt_trans l1 (Nat.lt_add_of_pos_right (by decide)), Nat.lt_trans l2 (Nat.lt_add_of_pos_right (by decide))⟩
      · rw [List.size_toArray, List.size_toArray]; omega
      · have old : ∀ b o, s1.heap.get? b = some o → h''.get? b = some o := fun b o e => by
          have hb := Heap.lt_size e
          exact hk2 b o ⟨Nat.ne_of_lt (Nat.lt_trans hb (Nat.lt_add_of_pos_right (by decide))), Nat.ne_of_lt (Nat.lt_trans hb (Nat.lt_add_of_pos_right (by decide))), Nat.ne_of_lt hb, Nat.ne_of_lt (Nat.lt_trans hb (Nat.lt_add_of_pos_right (by decide)))⟩ (hk b o e)
        obtain ⟨hl1, hl2⟩ := hl
        rw [List.size_toArray, List.size_toArray] at hl1
        obtain ⟨H', k1, k2, k3, k4, k5, k6, J⟩ := pairs_laid (tk := tk) I1 (show s1.heap.objs.size ≤ h'.objs.size by rw [hsz]; exact Nat.le_add_right _ _) z1 rv rv2 old hS hl1 g hl2
        exact ⟨.ref _, H', J, rfl, q H' _ as k1 k2 k3 k4 k5 k6⟩
end
end MC

set_option Elab.async false
set_option linter.all false
set_option maxRecDepth 100000
set_option maxHeartbeats 4000000
namespace VD
open PySem PySem.Spec L2 MC
open PyProof.Rows hiding St
section
variable {X : Cx} {F : Fx} {R : Rl} {NM : List Nat} {a b : Expr} {p p2 pos pos2 : Pos} {ds : Ev → Option (List D × Ev)} {M : List Nat} {As : List (List Nat)}
def pZipL : List D → Option D := fun ds => match ds with
  | [.lst xs, .lst ys] => some (.lst (zipD xs ys))
  | _ => none
theorem zip_dds {H H' : Hp} (sm : Same H H') : ∀ {vs ws : List V} {xs ys : List D} {ts : List Addr}, DDs H vs xs → DDs H ws ys → Paired (fun (t : Addr) (q : V × V) => H' t = some (.tup [q.1, q.2])) ts (vs.zip ws) → DDs H' (ts.map V.ref) (zipD xs ys)
  | [], _, _, _, _, .nil, _, p => by
    simp only [List.zip_nil_left] at p
    cases p
    simp only [zipD, List.map_nil]
    exact .nil
  | _ :: _, [], _, _, _, .cons _ _, .nil, p => by
    simp only [List.zip_nil_right] at p
    cases p
    simp only [zipD, List.map_nil]
    exact .nil
  | v :: vs, w :: ws, _, _, _, .cons h1 hs1, .cons h2 hs2, p => by
    simp only [List.zip_cons_cons] at p
    cases p with
    | cons r t =>
      simp only [zipD, List.map_cons]
      exact .cons (.tup r (.cons (h1.mono sm) (.cons (h2.mono sm) .nil))) (zip_dds sm hs1 hs2 t)
theorem ve_listZip (hc : X.calm = true) (hg : Gl X "list") (hm : X.mg "list" = none) (hg2 : Gl X "zip") (hm2 : X.mg "zip" = none) (h : VA X F R NM [a, b] ds As M) (hv : bootBuiltins "list" = some (.type "list") := by decide +kernel)
    (hs : starEach [.Call (.Name "zip" p2) [a, b] [] pos2] X.env = (false, eval (.Call (.Name "zip" p2) [a, b] [] pos2) X.env) :: starEach [] X.env := by rfl)
    (hs2 : starEach [a, b] X.env = (false, eval a X.env) :: starEach [b] X.env := by rfl) (hpl : (backTo pos2 (starEach [b] X.env)).any (·.1) = false := by rfl) :
    VE X F R NM (.Call (.Name "list" p) [.Call (.Name "zip" p2) [a, b] [] pos2] [] pos) (dFe (dL pZipL ds)) [] M := by
  obtain ⟨t, q, s⟩ := h.ex
  refine ⟨_, pe_listZip hc hg hm hg2 hm2 q hv hs hs2 hpl, fun PH hP σ H e S Q d e' rr hd q => ?_⟩
  unfold dFe dL at hd
  split at hd
  · rename_i dd ee hq
    split at hd
    · rename_i hfl
      cases hd
      split at hq
      · rename_i xs e1 hx
        split at hq
        · rename_i z hz
          cases hq
          refine s PH hP σ H e S _ _ _ rr hx fun vs H1 S1 Ts st1 r1 tm1 => ?_
          obtain ⟨k1, k2, k3⟩ := tm1.all
          unfold pZipL at hz
          split at hz
          · cases hz
            cases k1 with
            | cons h1 hs =>
              cases hs with
              | cons h2 hs =>
                cases hs
                have h1 := h1.dd rfl
                have h2 := h2.dd rfl
                cases h1 with
                | @lst a1 us _ g1 g2 =>
                  cases h2 with
                  | @lst a2 ws _ f1 f2 =>
                    refine ⟨a1, a2, us, ws, rfl, SqL.of (res_some g1).2, SqL.of (res_some f1).2, fun H' L ts sm n1 n2 n3 atL atT => ?_⟩
                    have fl : flats (zipD _ _) = true := hfl
                    have im : DDs (Res (Imm H') H') _ _ := DDs.imm (zip_dds (H' := H') sm (g2.mono res_same) (f2.mono res_same) atT) fl
                    refine q _ H' S1 (fun b => b = L ∨ Imm H' b) ?_ (r1.same sm) ⟨.inr (.lst (by rw [res_in (show L = L ∨ Imm H' L from .inl rfl)]; exact atL) (im.mono (res_up fun b z => .inr z))), fun b z => ?_, fun b z => ?_⟩
                    · have := st1.trans (Stp.of_same (S := S1) sm)
                      rw [List.append_nil] at this; exact this
                    · rcases z with rfl | ⟨xs, z⟩
                      · rw [atL]; exact fun z => nomatch z
                      · rw [z]; exact fun z => nomatch z
                    · rcases z with rfl | z
                      · refine .inr (.inr ⟨?_, fun k hk => r1.thr k _ hk n1, fun o u z => by rw [atL] at z; cases z⟩)
                        cases eb : H b with
                        | none => rfl
                        | some o => exact absurd n1 (st1.thr b (by rw [eb]; exact fun z => nomatch z))
                      · exact .inl z
          · cases hz
        · cases hq
      · cases hq
    · cases hd
  · cases hd
end
section
variable {X : Cx} {F : Fx} {R R' : Rl} {NM : List Nat} {A Is : List Nat} {fl : Bool} {tgs : List Expr} {pos : Pos} {bs : List D → Ev → Option Ev}
end
end VD

set_option Elab.async false
set_option linter.all false
set_option maxRecDepth 100000
set_option maxHeartbeats 4000000
set_option exponentiation.threshold 20000
namespace Sh
open PySem PySem.Spec L2 MC VD
open PyProof.Rows hiding St
noncomputable def body_is_thing : Ev → Option Out := (sRt (vAndD (d1 (pIsi "str") (dVar 0)) (vAndD (dChain pLe pLe (dC (.int 1)) (dL pLen (aCons (dVar 0) aNil)) (dC (.int 8))) (dCall (Sh.den_are_small) [] [] (aCons (dFl (dVar 0)) aNil)))))
noncomputable def den_is_thing : List D → Option (D × List D) := dFn 1 [] body_is_thing
noncomputable def body_check_thing : Ev → Option Out := (sIf (tNotD (dBool (dCall (Sh.den_is_thing) [] [] (aCons (dFl (dVar 0)) aNil))))
    sNo
    sNil)
noncomputable def den_check_thing : List D → Option (D × List D) := dFn 1 [] body_check_thing
noncomputable def body_check_place : Ev → Option Out := (sIf (tOrD (tNotD (dBool (dCall (Sh.den_is_whole) [] [] (aCons (dFl (dVar 0)) aNil)))) (tNotD (dBool (dChain pLe pLt (dC (.int 0)) (dVar 0) (dVar 1)))))
    sNo
    sNil)
noncomputable def den_check_place : List D → Option (D × List D) := dFn 2 [] body_check_place
noncomputable def body_changes : Ev → Option Out := (sSeq (sSet 2 (dFe (dL pZipL (aCons (dVar 0) (aCons (dVar 1) aNil)))))
    (sRt (dLc [3, 4, 5] (iStL enumP (aCons (dVar 2) aNil)) (bFl true (bTup 2 (bCons (bName 3) (bCons (bTup 2 (bCons (bName 4) (bCons (bName 5) bNil))) bNil)))) (dBool (d2 pNeD (dVar 4) (dVar 5))) (dTup (aCons (dFl (dVar 3)) (aCons (dFl (dVar 4)) (aCons (dFl (dVar 5)) aNil)))))))
noncomputable def den_changes : List D → Option (D × List D) := dFn 6 [] body_changes
noncomputable def body_l_changes : Ev → Option Out := (sRt (dLc [2] (iStL rng1P (aCons (dL pLen (aCons (dVar 0) aNil)) aNil)) (bFl true (bName 2)) (dBool (d2 pNeD (d2 pIx (dVar 0) (dVar 2)) (d2 pIx (dVar 1) (dVar 2)))) (dTup (aCons (dFl (dVar 2)) (aCons (dFl (d2 pIx (dVar 0) (dVar 2))) (aCons (dFl (d2 pIx (dVar 1) (dVar 2))) aNil))))))
noncomputable def den_l_changes : List D → Option (D × List D) := dFn 3 [] body_l_changes
end Sh

set_option Elab.async false
set_option linter.all false
set_option maxRecDepth 100000
set_option maxHeartbeats 4000000
set_option exponentiation.threshold 20000
namespace Sh
open PySem PySem.Spec L2 MC VD
open PyProof.Rows hiding St
noncomputable def body_put_in : Ev → Option Out := (sSeq (sSet 4 (dCall (Sh.den_near) [] [] (aCons (dVar 0) aNil)))
    (sSeq (sDo (dCall (Sh.den_check_place) [] [] (aCons (dFl (dVar 1)) (aCons (d2 pAdd (dL pLen (aCons (dVar 4) aNil)) (dC (.int 1))) aNil))))
    (sSeq (sDo (dCall (Sh.den_check_thing) [] [] (aCons (dFl (dVar 2)) aNil)))
    (sSeq (sSet 5 (dCall (Sh.den_checked_graces) [] [] (aCons (dVar 3) aNil)))
    (sSeq (sSet 6 (dCall (Sh.den_reckoned) [] [] (aCons (dFe (d2 pCat (dFe (d2 pCat (dFe (dSl pSlL (dVar 4) oNo (oSo (dVar 1)))) (dLst (aCons (dFl (dVar 2)) aNil)))) (dFe (dSl pSlL (dVar 4) (oSo (dVar 1)) oNo)))) (aCons (dVar 5) aNil))))
    (sRt (dTup (aCons (dFl (d2 pIx (dVar 6) (dVar 1))) (aCons (dCall (Sh.den_changes) [] [] (aCons (dCall (Sh.den_reckoned) [] [] (aCons (dVar 4) (aCons (dVar 5) aNil))) (aCons (dFe (d2 pCat (dFe (dSl pSlL (dVar 6) oNo (oSo (dVar 1)))) (dFe (dSl pSlL (dVar 6) (oSo (d2 pAdd (dVar 1) (dC (.int 1)))) oNo)))) aNil))) aNil)))))))))
noncomputable def den_put_in : List D → Option (D × List D) := dFn 7 [] body_put_in
end Sh

set_option Elab.async false
set_option linter.all false
set_option maxRecDepth 100000
set_option maxHeartbeats 4000000
namespace MC
open PySem PySem.Spec PyProof.Rows L2
end MC
namespace VD
open PySem PySem.Spec L2 MC
open PyProof.Rows hiding St
section
variable {K : PySem.W.Frag} {F : Fx} {R : Rl} {PH : List Ph} {H : Hp} {σ : St} {e : Ev} {S : FPs} {ix : Nat} {a : Addr} {kvs : List (Key × V)} {od : Obj}
end
section
variable {X : Cx} {F : Fx} {R R1 : Rl} {NM : List Nat} {Is M1 M2 M3 Ae : List Nat} {fl : Bool} {tg it : Expr} {pos : Pos} {bd : D → Ev → Option Ev} {elt : Expr} {ifs : List Expr} {scope : Scope} {own : List (Str × Nat)} {dt : Ev → Option (Bool × Ev)} {da dd : Ev → Option (D × Ev)}
end
end VD

set_option Elab.async false
set_option linter.all false
set_option maxRecDepth 100000
set_option maxHeartbeats 4000000
set_option exponentiation.threshold 20000
namespace Sh
open PySem PySem.Spec L2 MC VD
open PyProof.Rows hiding St
end Sh

set_option Elab.async false
set_option linter.all false
set_option maxRecDepth 100000
set_option maxHeartbeats 4000000
set_option exponentiation.threshold 20000
namespace Sh
open PySem PySem.Spec L2 MC VD
open PyProof.Rows hiding St
end Sh

set_option Elab.async false
set_option linter.all false
set_option maxRecDepth 100000
set_option maxHeartbeats 4000000
namespace VD
open PySem PySem.Spec L2 MC
open PyProof.Rows hiding St
section
variable {X : Cx} {F : Fx} {R : Rl} {NM : List Nat} {a : Expr} {da : Ev → Option (D × Ev)} {A M : List Nat} {p p2 pos pos2 : Pos}
end
end VD

set_option Elab.async false
set_option linter.all false
set_option maxRecDepth 100000
set_option maxHeartbeats 4000000
namespace VD
open PySem PySem.Spec L2 MC
open PyProof.Rows hiding St
section
variable {K : PySem.W.Frag} {F : Fx} {R : Rl} {PH : List Ph} {H H' : Hp} {σ : St} {e : Ev} {S : FPs} {x : Nat} {ks M : List Nat} {ds : Ev → Option (List D × Ev)} {As : List (List Nat)}
theorem Rp.mutV {vx : V} {x : Nat} {a : Addr} {u u' : HO} {d' : D} {T : Addr → Prop} {ks : List Nat} (r : Rp K F R PH H σ e S) (ha : σ[x]? = some (some vx)) (hS : S x a) (hu : H a = some u) (hm : ∀ xs, u ≠ .tup xs)
    (hsm : ∀ b o, b ≠ a → H b = some o → H' b = some o) (hu' : H' a = some u') (hf : ∀ o w, u' ≠ .frz o w)
    (hT : ∀ b, T b → H' b ≠ none ∧ NFrz H' b ∧ (Imm H' b ∨ (F.H0 b = none ∧ ∀ k, ¬ S k b))) (hd : RV K (Res (addS S x T x) H') vx d') (ok : mutOk F (PH.map (·.ix)) R x = true) (hk : killOk F R x ks = true) :
    Rp K F R PH H' σ ((killL ks e).set x (some d')) (addS S x T) ∧ Stq [x] H S H' (addS S x T) := by
  obtain ⟨m1, m2, m3⟩ := mutOk_out ok
  have na : ¬ Imm H a := fun ⟨xs, z⟩ => by rw [hu] at z; exact hm xs (Option.some.inj z)
  have st : Stq [x] H S H' (addS S x T) := by
    refine ⟨fun b o eb k => ?_, fun b hb => ?_, fun k hk => addS_ne (by simpa using hk), fun k b h => .inl h⟩
    · by_cases hb : b = a
      · subst hb
        rcases k with k | k
        · exact absurd k na
        · exact absurd hS (k x (by simp))
      · exact hsm b o hb eb
    · by_cases hb' : b = a
      · subst hb'; rw [hu']; exact fun z => nomatch z
      · cases eb : H b with
        | none => exact absurd eb hb
        | some o => rw [hsm b o hb' eb]; exact fun z => nomatch z
  refine ⟨?_, st⟩
  have hx : x < (killL ks e).length := by rw [killL_len, r.len]; exact m1
  have nfa : NFrz H' a := fun o w z => by rw [hu'] at z; exact hf o w (Option.some.inj z)
  refine r.change st (by rw [List.length_set, killL_len]) (fun m hm d q => ?_) (fun j d hj q => ?_) (fun m hm b q => ?_) (fun m hm b q => ?_) (fun m hm b q => ?_) (fun m hm m' hm' n => ?_) (fun m hm => ?_)
  · have : m = x := by simpa using hm
    subst this
    rw [List.getElem?_set_self hx] at q
    cases q
    exact ⟨_, ha, hd⟩
  · have hj : j ≠ x := by simpa using hj
    rw [List.getElem?_set_ne (Ne.symm hj)] at q
    obtain ⟨q1, q2⟩ := killL_get q
    refine ⟨q1, fun m hm => ?_⟩
    have : m = x := by simpa using hm
    subst this
    have hjl : j < F.nl := by rw [← r.len]; exact (List.getElem?_eq_some_iff.mp q1).1
    rw [rel_comm]; exact killOk_out hk hjl hj q2
  · have : m = x := by simpa using hm
    subst this
    rw [addS_eq] at q
    rcases q with q | q
    · exact st.thr b (r.thr m b q)
    · exact (hT b q).1
  · have : m = x := by simpa using hm
    subst this
    rw [addS_eq] at q
    rcases q with q | q
    · by_cases hb : b = a
      · subst hb; exact nfa
      · have nz : NFrz H b := by
          rcases r.fz m b q with z | ⟨p, hp, hpm, z⟩ | ⟨p, hp, o, u, z⟩
          · exact z
          · exact (r.dis m (F.nl + p) b (by omega) (m2 p hp hpm) q z).nfrz
          · have := (r.ph p hp).1
            exact (r.dis m p.ix b (by omega) (m3 p hp) q ((r.ph p hp).2.2 _ _ z).1).nfrz
        intro o w z
        cases eb : H b with
        | none => exact r.thr m b q eb
        | some o' =>
          rw [hsm b o' hb eb] at z; exact nz o w (eb.trans z)
    · exact (hT b q).2.1
  · have : m = x := by simpa using hm
    subst this
    rw [addS_eq] at q
    rcases q with q | q
    · exact .inl q
    · rcases (hT b q).2.2 with z | ⟨z1, z2⟩
      · exact .inr (.inr z)
      · exact .inr (.inl ⟨z1, fun k _ => z2 k⟩)
  · have h1 : m = x := by simpa using hm
    have h2 : m' = x := by simpa using hm'
    exact absurd (h1.trans h2.symm) n
  · have : m = x := by simpa using hm
    subst this
    exact ok
theorem mut_endV {vx : V} {Hs : Hp} {S0 : FPs} {a : Addr} {o o' : HO} {d res : D} {v : V} {T : Addr → Prop} {Q : VK} (r : Rp K F R PH H σ e S) (st0 : Stp M Hs S0 H S) (ok : mutOk F (PH.map (·.ix)) R x = true) (hk : killOk F R x ks = true) (ha : σ[x]? = some (some vx)) (hS : S x a) (hu : H a = some o)
    (hn : ∀ xs, o ≠ .tup xs) (hf : ∀ y u, o' ≠ .frz y u) (hT1 : ∀ b, T b → H b ≠ none) (hT2 : ∀ b, T b → Imm H b ∨ (Hs b = none ∧ (∀ k, ¬ S k b) ∧ NFrz H b)) (hT0 : ∀ b, F.H0 b ≠ none → Hs b ≠ none) (hd : DD (Res (fun b => S x b ∨ T b) (upd H a o')) vx d)
    (hv : DD (Res (fun b => (S x b ∧ b ≠ a) ∨ T b) H) v res) (q : ∀ H' S' U, Stp (M ++ [x]) Hs S0 H' S' → Rp K F R PH H' σ ((killL ks e).set x (some d)) S' → Tm K Hs H' S' [x] v res U → Q v H') : Q v (upd H a o') := by
  have na : ¬ Imm H a := fun ⟨xs, z⟩ => by rw [hu] at z; exact hn xs (Option.some.inj z)
  have hTa : ¬ T a := fun z => (hT2 a z).elim na fun w => w.2.1 x hS
  have immK : ∀ b, Imm H b → Imm (upd H a o') b := fun b h => h.imp fun xs z => by
    have hne : b ≠ a := fun w => na ⟨xs, by rw [← w]; exact z⟩
    rw [upd_ne hne]; exact z
  have h0 : ∀ b, Hs b = none → F.H0 b = none := fun b z => by
    cases w : F.H0 b with
    | none => rfl
    | some y => exact absurd z (hT0 b (by rw [w]; exact fun q => nomatch q))
  have hT : ∀ b, T b → upd H a o' b ≠ none ∧ NFrz (upd H a o') b ∧ (Imm (upd H a o') b ∨ (F.H0 b = none ∧ ∀ k, ¬ S k b)) := fun b tb => by
    refine ⟨thr_keep (hT1 b tb), ?_, ?_⟩
    · rcases hT2 b tb with z | z
      · exact nfrz_keep z.nfrz hf
      · exact nfrz_keep z.2.2 hf
    · rcases hT2 b tb with z | z
      · exact .inl (immK b z)
      · exact .inr ⟨h0 b z.1, z.2.1⟩
  obtain ⟨r', st⟩ := r.mutV (T := T) (H' := upd H a o') (u' := o') ha hS hu hn (fun b y hb e => by rw [upd_ne hb]; exact e) upd_same hf hT (.inr (by rw [addS_eq]; exact hd)) ok hk
  · refine q _ _ (fun b => (S x b ∧ b ≠ a) ∨ T b) (st0.more st fun b tb => (hT2 b tb).imp (immK b) fun w => w.1) r' ⟨.inr (hv.mono (res_mono fun b y w e => ⟨w, ?_⟩)), fun b w => ?_, fun b w => ?_⟩
    · rw [upd_ne (w.elim (fun z => z.2) fun z w => hTa (w ▸ z))]; exact e
    · rcases w with w | w
      · exact thr_keep (r.thr x b w.1)
      · exact thr_keep (hT1 b w)
    · rcases w with w | w
      · exact .inr (.inl ⟨x, by simp, .inl w.1⟩)
      · exact .inr (.inl ⟨x, by simp, .inr ⟨rfl, w⟩⟩)
theorem atI_at {α : Type} {xs : List α} {i : Nat} {d : α} (h : xs[i]? = some d) : atI xs (i : Int) = some d := by
  have hl := (List.getElem?_eq_some_iff.mp h).1
  unfold atI ixN
  rw [if_pos (by omega), if_pos (by omega)]
  exact h
def flatBut (j : Nat) : List D → Bool
  | [] => true
  | d :: ds => match j with
    | 0 => flats ds
    | j + 1 => d.flat && flatBut j ds
def dAftT (p : List D → List D → Option (D × List D)) (x j : Nat) (ks : List Nat) : List D × Ev → Option (D × Ev) := fun w => match w.2[x]? with
  | some (some (.tup ds)) => match ds[j]? with
    | some (.lst xs) => if flatBut j ds then match p xs w.1 with
      | some (res, xs') => some (res, (killL ks w.2).set x (some (.tup (ds.set j (.lst xs')))))
      | none => none
      else none
    | _ => none
  | _ => none
def dMutT (p : List D → List D → Option (D × List D)) (x j : Nat) (ks : List Nat) (ds : Ev → Option (List D × Ev)) : Ev → Option (D × Ev) := fun e => match e[x]? with
  | some (some (.tup es)) => match es[j]? with
    | some (.lst _) => (ds e).bind (dAftT p x j ks)
    | _ => none
  | _ => none
theorem flats_mono {H1 H2 : Hp} (sm : Same (Res (Imm H1) H1) H2) : ∀ {vs : List V} {ds : List D}, DDs H1 vs ds → flats ds = true → DDs H2 vs ds
  | _, _, .nil, _ => .nil
  | _, _, .cons h hs, f => by
    unfold flats at f
    rw [Bool.and_eq_true] at f
    exact .cons ((DD.imm h f.1).mono sm) (flats_mono sm hs f.2)
theorem but_set {H1 H2 : Hp} {v : V} {d' : D} (sm : Same (Res (Imm H1) H1) H2) (h2 : DD H2 v d') : ∀ {j : Nat} {vs : List V} {ds : List D}, DDs H1 vs ds → vs[j]? = some v → flatBut j ds = true → DDs H2 vs (ds.set j d')
  | 0, _, _, .cons h hs, e, f => by
    simp at e; subst e
    exact .cons h2 (flats_mono sm hs f)
  | j + 1, _, _, .cons h hs, e, f => by
    unfold flatBut at f
    rw [Bool.and_eq_true] at f
    exact .cons ((DD.imm h f.1).mono sm) (but_set sm h2 hs (by simpa using e) f.2)
  | 0, _, _, .nil, e, _ => by simp at e
  | _ + 1, _, _, .nil, e, _ => by simp at e
theorem Rp.ownT (r : Rp K F R PH H σ e S) {ds : List D} {xs : List D} {j : Nat} (h : e[x]? = some (some (.tup ds))) (hj : ds[j]? = some (.lst xs)) : ∃ p vs a ws, σ[x]? = some (some (.ref p)) ∧ S x p ∧ H p = some (.tup vs) ∧ DDs (Res (S x) H) vs ds ∧ vs[j]? = some (.ref a) ∧ S x a ∧ H a = some (.lst ws) ∧ DDs (Res (fun b => S x b ∧ b ≠ a) H) ws xs := by
  obtain ⟨v, h1, h2⟩ := r.rep x _ h
  rcases h2 with ⟨_, _, z, _⟩ | h2
  · cases z
  · cases h2 with
    | @tup p vs _ hr hs =>
      obtain ⟨q1, q2⟩ := res_some hr
      obtain ⟨w, k1, k2⟩ := hs.get hj
      cases k2 with
      | @lst a ws _ g1 g2 =>
        obtain ⟨q3, q4⟩ := res_some g1
        exact ⟨p, vs, a, ws, h1, q1, q2, hs, k1, q3, q4, DD.items g1 g2⟩
theorem se_mutT {NM : List Nat} {t : TA} {r : V → List V → Hp → VK → Prop} {p : List D → List D → Option (D × List D)} (j : Nat) (hp : PmL K r p) (ha : SA K F R NM t ds As M) (ok : mutOk F NM R x = true) (hk : killOk F R x ks = true) (hA : As.flatten = []) :
    SE K F R NM (tBM K "list" r (tOp (rIxQ K) (tVar x) (tC (.int (j : Int)))) t) (dMutT p x j ks ds) [x] (M ++ [x]) := by
  intro PH hP σ H e S Q d e' rr hd q
  subst hP
  unfold dMutT at hd
  split at hd
  · rename_i es hy
    split at hd
    · rename_i ys hj
      obtain ⟨P, vs, a, ws, h1, h2, h3, h4, h5, h6, h7, h8⟩ := rr.ownT hy hj
      obtain ⟨⟨as, e1⟩, hes, hd⟩ := Option.bind_eq_some_iff.mp hd
      refine ⟨.ref P, h1, .inr ⟨P, vs, (j : Int), .ref a, rfl, rfl, .inl (.inl h3), atI_at h5, .inl ⟨rfl, _, SqL.of h7⟩, ?_⟩⟩
      refine ha PH rfl σ H e S _ _ _ rr hes fun us H1 S1 Ts st1 r1 tm1 => ?_
      have hP := st1.keep P _ h3 (.inl ⟨vs, h3⟩)
      unfold dAftT at hd
      split at hd
      · rename_i ds1 hx1
        split at hd
        · rename_i xs1 hj1
          split at hd
          · rename_i hfb
            split at hd
            · rename_i res xs' hpr
              cases hd
              obtain ⟨P', vs', a', ws1, g1, g2, g3, g4, g5, g6, g7, g8⟩ := r1.ownT hx1 hj1
              dsimp only at hx1 hj1 hpr hfb g1
              rw [h1] at g1; cases g1
              rw [hP] at g3; cases g3
              rw [h5] at g5; cases g5
              obtain ⟨k1, k2, k3⟩ := tm1.all
              have k3' : ∀ b, allT Ts b → Imm H1 b ∨ (H b = none ∧ (∀ k, ¬ S1 k b) ∧ NFrz H1 b) := fun b tb => by
                rcases k3 b tb with z | ⟨k, z, _⟩ | z
                · exact .inl z
                · rw [hA] at z; cases z
                · exact .inr z
              have nta : ∀ b, ((S1 x b ∧ b ≠ a) ∨ allT Ts b) → b ≠ a ∧ (S1 x b ∨ allT Ts b) := fun b w => by
                rcases w with w | w
                · exact ⟨w.2, .inl w.1⟩
                · refine ⟨fun z => ?_, .inr w⟩
                  subst z
                  rcases k3' b w with ⟨ys, z⟩ | z
                  · rw [g7] at z; cases z
                  · exact z.2.1 x g6
              have hPa : P ≠ a := fun z => by rw [z, g7] at hP; cases hP
              refine hp H1 (fun b => S1 x b ∧ b ≠ a) (allT Ts) a ws1 xs1 us as _ _ Q g7 g8 k1 hpr fun v xs2 w1 w2 => ?_
              refine mut_endV (T := allT Ts) r1 st1 ok hk h1 g6 g7 (fun _ z => nomatch z) (fun _ _ z => nomatch z) k2 k3' rr.dom ?_ w1 fun H' S' U st' r' tm' => q v H' S' U st' r' tm'
              have nl : DD (Res (fun b => S1 x b ∨ allT Ts b) (upd H1 a (.lst xs2))) (.ref a) (.lst xs') := .lst (by rw [res_in (show S1 x a ∨ allT Ts a from .inl g6)]; exact upd_same) (w2.mono (items_upd nta))
              have sm : Same (Res (Imm (Res (S1 x) H1)) (Res (S1 x) H1)) (Res (fun b => S1 x b ∨ allT Ts b) (upd H1 a (.lst xs2))) := fun b o w => by
                obtain ⟨z1, z2⟩ := res_some w
                obtain ⟨z3, z4⟩ := res_some z2
                obtain ⟨ys, z5⟩ := z1
                rw [z2] at z5
                cases z5
                have hb : b ≠ a := fun z => by rw [z, g7] at z4; cases z4
                rw [res_in (show S1 x b ∨ allT Ts b from .inl z3), upd_ne hb]; exact z4
              exact .tup (by rw [res_in (show S1 x P ∨ allT Ts P from .inl g2), upd_ne hPa]; exact hP) (but_set sm nl g4 h5 hfb)
            · cases hd
          · cases hd
        · cases hd
      · cases hd
    · cases hd
  · cases hd
end
section
variable {X : Cx} {F : Fx} {R : Rl} {NM : List Nat} {a : Expr} {es : List Expr} {p1 p2 p3 apos pos : Pos} {ds : Ev → Option (List D × Ev)} {M : List Nat} {As : List (List Nat)} {id : String} {name : Str} {r : V → List V → Hp → VK → Prop}
theorem ve_mutT (x j : Nat) (ks : List Nat) {y : Str} {k : Nat} {p : List D → List D → Option (D × List D)} (slot : Slot "list" name id) (hty : typeOf (.builtin id) = pure (.type "method_descriptor")) (hm : MtR X id r) (hp : PmL X.K r p) (ha : VA X F R NM (a :: es) ds As M) (ok : mutOk F NM R x = true := by rfl) (hk : killOk F R x ks = true := by rfl) (hA : As.flatten = [] := by rfl)
    (hN : X.N[x]? = some y := by rfl) (hv : Vis X.env.scope y := by first | exact Or.inl rfl | exact Or.inr (Or.inl rfl) | exact Or.inr (Or.inr rfl)) (hd : (y == ("__debug__" : Str)) = false := by decide) (hcd : (y == ("__classdict__" : Str)) = false := by decide)
    (hbase : attributeBase (.Subscript (.Name y p1) (.Constant (.int (j : Int)) k p2) p3) name X.env (eval (.Subscript (.Name y p1) (.Constant (.int (j : Int)) k p2) p3) X.env) = eval (.Subscript (.Name y p1) (.Constant (.int (j : Int)) k p2) p3) X.env := by rfl)
    (hfew : ((backTo pos (starEach (a :: es) X.env)).all (fun x => !x.1) && (backToKw pos (keywordEach [] X.env)).all (fun x => x.1.isSome)
      && decide ((a :: es).length + ([] : List Keyword).length + (if ([] : List Keyword).isEmpty then 0 else 1) < 30)) = true := by rfl)
    (hline : (apos.endLine == pos.line) = true := by rfl) (hs : starEach (a :: es) X.env = (false, eval a X.env) :: starEach es X.env := by rfl) (hplain : (backTo pos (starEach es X.env)).any (·.1) = false := by rfl) (hpi : PlainIx (.Constant (.int (j : Int)) k p2) := by exact fun _ _ => rfl) :
    VE X F R NM (.Call (.Attribute (.Subscript (.Name y p1) (.Constant (.int (j : Int)) k p2) p3) name apos) (a :: es) [] pos) (dMutT p x j ks ds) [x] (M ++ [x]) := by
  obtain ⟨t, q, s⟩ := ha.ex
  exact ⟨_, pe_bm PySem.F.plainAttrs_list slot hty hm (pe_ix ix_q (pe_var hN hv hd hcd) pe_int hpi) q hbase hfew hline hs hplain, se_mutT j hp s ok hk hA⟩
end
end VD
namespace MC
open PySem PySem.Spec PyProof.Rows L2
section
variable {Φ : Around → Prop} {X : Cx} {CX : CXT} {k : Nat} {f : Addr} {fd : FuncData} {ps : List Str} {sp : Sp} {dvs : List V} {ds : List Value} {E : XK} {x : Str} {p pos : Pos}
theorem pe_callA0 (hΦ : Φ X.A) (F : FnA Φ X.prog X.w X.K X.mg X.base CX k f fd ps sp) (hr : Room k X.A) (hg : Gl X x) (hm : X.mg x = some (.ref f)) (hk : PySem.W.keepIn X.K (.ref f) = true) (hb : Binds X.K fd ps ds) (hd : Vals dvs ds) (hx : Passes CX X E)
    (hdb : (x == ("__debug__" : Str)) = false := by decide) : PE X (.Call (.Name x p) [] [] pos) (tCall sp dvs E tNil) := by
  constructor
  intro pins s σ H Q I h
  refine wpAny_Call_Name_kw (ld_glob I hg hm ?_ hdb)
  refine PySem.W.callWith_K0 I.kIn hk ?_
  have h : sp dvs H _ _ := h
  have hl : ([] ++ ds).length = ps.length := hd.length.symm.trans (F.len _ _ _ _ h)
  refine wpAny_call (codeAny_mono (F.run X.A X.stack s H ⟨[], []⟩ _ _ Q E hΦ hr I.env0 (hb s [] I.kIn hl) hd h) fun z s' hq => ?_)
  match z, hq with
  | .error e', hq => exact hx pins σ H s e' s' I hq
  | .ok (.ret u), hq => exact I.after hq
  | .ok .next, hq => exact hq.elim
  | .ok .brk, hq => exact hq.elim
  | .ok .cont, hq => exact hq.elim
end
end MC
namespace VD
open PySem PySem.Spec L2 MC
open PyProof.Rows hiding St
section
variable {X : Cx} {F : Fx} {R : Rl} {NM : List Nat} {pos : Pos}
theorem ve_call0 {x : Str} {p : Pos} {f : Addr} {fd : FuncData} {ps : List Str} {k : Nat} {G : List D → Option (D × List D)} {mu al : List Nat} (hc : Clean X.A) (FN : FnA Clean X.prog X.w X.K X.mg X.base CX0 k f fd ps (SpD X.K G mu al 0)) (hr : Room k X.A) (hg : Gl X x) (hm : X.mg x = some (.ref f))
    (hk : PySem.W.keepIn X.K (.ref f) = true) (hb : Binds X.K fd ps []) (ok : callOk F NM R mu [] [] al [] [] = true := by rfl) (hdb : (x == ("__debug__" : Str)) = false := by decide) : VE X F R NM (.Call (.Name x p) [] [] pos) (dCall G [] [] aNil) (pick al []) ([] ++ []) := by
  have s : SO X.K F R NM tNil aNil [] [] [] := fun PH hP σ H e S Q ds e' r hd q => by cases hd; exact q [] H S [] Stp.refl r .nil (fun i x z => by simp at z)
  exact ⟨_, pe_callA0 (E := E0) hc FN hr hg hm hk hb .nil pass0 hdb, se_call s ok rfl⟩
end
end VD

set_option Elab.async false
set_option linter.all false
set_option maxRecDepth 100000
set_option maxHeartbeats 4000000
set_option exponentiation.threshold 20000
namespace V48
open PySem PySem.Spec L2 MC VD
open PyProof.Rows hiding St
def top (i : Nat) : Stmt := PySem.Challenge.pw_missclock_k48_one_ask_put_in.main.body.getD i (.Pass ⟨0, 0, 0, 0⟩)
abbrev s_is_whole : Stmt := top 2
theorem sc_is_whole : FnScope ["value"] ["value"] (defScope s_is_whole) := ⟨rfl, rfl, rfl, by decide +kernel, rfl, by decide +kernel, by decide +kernel⟩
abbrev s_is_thing : Stmt := top 16
theorem sc_is_thing : FnScope ["thing"] ["thing"] (defScope s_is_thing) := ⟨rfl, rfl, rfl, by decide +kernel, rfl, by decide +kernel, by decide +kernel⟩
abbrev s_are_things : Stmt := top 17
theorem sc_are_things : FnScope ["values", "texts", "text"] ["values"] (defScope s_are_things) := ⟨rfl, rfl, rfl, by decide +kernel, rfl, by decide +kernel, by decide +kernel⟩
abbrev s_are_small : Stmt := top 18
theorem sc_are_small : FnScope ["signs"] ["signs"] (defScope s_are_small) := ⟨rfl, rfl, rfl, by decide +kernel, rfl, by decide +kernel, by decide +kernel⟩
abbrev s_is_row : Stmt := top 19
theorem sc_is_row : FnScope ["thing", "waiting", "row", "deep", "agains", "part"] ["thing"] (defScope s_is_row) := ⟨rfl, rfl, rfl, by decide +kernel, rfl, by decide +kernel, by decide +kernel⟩
abbrev s_looks_again : Stmt := top 20
theorem sc_looks_again : FnScope ["part", "row", "times"] ["part"] (defScope s_looks_again) := ⟨rfl, rfl, rfl, by decide +kernel, rfl, by decide +kernel, by decide +kernel⟩
abbrev s_near : Stmt := top 21
theorem sc_near : FnScope ["row"] ["row"] (defScope s_near) := ⟨rfl, rfl, rfl, by decide +kernel, rfl, by decide +kernel, by decide +kernel⟩
abbrev s_check_row : Stmt := top 22
theorem sc_check_row : FnScope ["row"] ["row"] (defScope s_check_row) := ⟨rfl, rfl, rfl, by decide +kernel, rfl, by decide +kernel, by decide +kernel⟩
abbrev s_check_near : Stmt := top 23
theorem sc_check_near : FnScope ["row", "many"] ["row"] (defScope s_check_near) := ⟨rfl, rfl, rfl, by decide +kernel, rfl, by decide +kernel, by decide +kernel⟩
abbrev s_check_thing : Stmt := top 24
theorem sc_check_thing : FnScope ["thing"] ["thing"] (defScope s_check_thing) := ⟨rfl, rfl, rfl, by decide +kernel, rfl, by decide +kernel, by decide +kernel⟩
abbrev s_check_place : Stmt := top 25
theorem sc_check_place : FnScope ["place", "many"] ["place", "many"] (defScope s_check_place) := ⟨rfl, rfl, rfl, by decide +kernel, rfl, by decide +kernel, by decide +kernel⟩
abbrev s_count_asks : Stmt := top 26
theorem sc_count_asks : FnScope ["row", "agains", "part", "inner", "times"] ["row"] (defScope s_count_asks) := ⟨rfl, rfl, rfl, by decide +kernel, rfl, by decide +kernel, by decide +kernel⟩
abbrev s_laid_out : Stmt := top 27
theorem sc_laid_out : FnScope ["row", "asks", "part", "inner", "times"] ["row"] (defScope s_laid_out) := ⟨rfl, rfl, rfl, by decide +kernel, rfl, by decide +kernel, by decide +kernel⟩
abbrev s_checked_graces : Stmt := top 29
theorem sc_checked_graces : FnScope ["graces", "known", "_"] ["graces"] (defScope s_checked_graces) := ⟨rfl, rfl, rfl, by decide +kernel, rfl, by decide +kernel, by decide +kernel⟩
abbrev s_with_lowest : Stmt := top 30
theorem sc_with_lowest : FnScope ["graces", "lowest"] ["graces"] (defScope s_with_lowest) := ⟨rfl, rfl, rfl, by decide +kernel, rfl, by decide +kernel, by decide +kernel⟩
abbrev s_lowest_of : Stmt := top 31
theorem sc_lowest_of : FnScope ["graces", "lowest", "thing", "grace"] ["graces"] (defScope s_lowest_of) := ⟨rfl, rfl, rfl, by decide +kernel, rfl, by decide +kernel, by decide +kernel⟩
abbrev s_reckoned : Stmt := top 33
theorem sc_reckoned : FnScope ["asks", "graces", "endless", "told", "last", "place", "thing", "since", "depth"] ["asks", "graces"] (defScope s_reckoned) := ⟨rfl, rfl, rfl, by decide +kernel, rfl, by decide +kernel, by decide +kernel⟩
abbrev s_depth_behind : Stmt := top 34
theorem sc_depth_behind : FnScope ["since", "grace", "many", "few", "middle"] ["since", "grace"] (defScope s_depth_behind) := ⟨rfl, rfl, rfl, by decide +kernel, rfl, by decide +kernel, by decide +kernel⟩
abbrev s_put_in : Stmt := top 36
theorem sc_put_in : FnScope ["row", "place", "thing", "graces", "asks", "known", "told"] ["row", "place", "thing", "graces"] (defScope s_put_in) := ⟨rfl, rfl, rfl, by decide +kernel, rfl, by decide +kernel, by decide +kernel⟩
abbrev s_changes : Stmt := top 37
theorem sc_changes : FnScope ["told", "other", "both", "at", "depth", "new"] ["told", "other"] (defScope s_changes) := ⟨rfl, rfl, rfl, by decide +kernel, rfl, by decide +kernel, by decide +kernel⟩
abbrev s_l_jar : Stmt := top 39
theorem sc_l_jar : FnScope ["_law_script", "_law_k", "_law_cell"] ["_law_script", "_law_k"] (defScope s_l_jar) := ⟨rfl, rfl, rfl, by decide +kernel, rfl, by decide +kernel, by decide +kernel⟩
abbrev s_l_pour : Stmt := top 40
theorem sc_l_pour : FnScope ["_law_jar_here", "_law_many", "_law_found", "_law_mixed"] ["_law_jar_here", "_law_many"] (defScope s_l_pour) := ⟨rfl, rfl, rfl, by decide +kernel, rfl, by decide +kernel, by decide +kernel⟩
abbrev s_l_named : Stmt := top 41
theorem sc_l_named : FnScope ["_law_jar_here", "_law_many", "_law_letters", "_law_style", "_law_stem", "_law_found", "_law_k", "_law_pair"] ["_law_jar_here", "_law_many"] (defScope s_l_named) := ⟨rfl, rfl, rfl, by decide +kernel, rfl, by decide +kernel, by decide +kernel⟩
abbrev s_l_asks : Stmt := top 42
theorem sc_l_asks : FnScope ["_law_jar_here", "_law_names", "_law_most", "_law_way", "_law_wide", "_law_found", "_law_k", "_law_some", "_law_late", "_law_other", "_law_loop", "_law_pick"] ["_law_jar_here", "_law_names", "_law_most"] (defScope s_l_asks) := ⟨rfl, rfl, rfl, by decide +kernel, rfl, by decide +kernel, by decide +kernel⟩
abbrev s_l_graced : Stmt := top 43
theorem sc_l_graced : FnScope ["_law_jar_here", "_law_names", "_law_way", "_law_found", "_law_name", "_law_far"] ["_law_jar_here", "_law_names"] (defScope s_l_graced) := ⟨rfl, rfl, rfl, by decide +kernel, rfl, by decide +kernel, by decide +kernel⟩
abbrev s_l_folded : Stmt := top 44
theorem sc_l_folded : FnScope ["_law_jar_here", "_law_asks_here", "_law_found", "_law_at", "_law_piece", "_law_size", "_law_end"] ["_law_jar_here", "_law_asks_here"] (defScope s_l_folded) := ⟨rfl, rfl, rfl, by decide +kernel, rfl, by decide +kernel, by decide +kernel⟩
abbrev s_l_depth_of : Stmt := top 45
theorem sc_l_depth_of : FnScope ["_law_amid", "_law_grace", "_law_some", "_law_many", "_law_d", "_law_one"] ["_law_amid", "_law_grace"] (defScope s_l_depth_of) := ⟨rfl, rfl, rfl, by decide +kernel, rfl, by decide +kernel, by decide +kernel⟩
abbrev s_l_depths : Stmt := top 46
theorem sc_l_depths : FnScope ["_law_asks_here", "_law_boons", "_law_found", "_law_last", "_law_k", "_law_thing"] ["_law_asks_here", "_law_boons"] (defScope s_l_depths) := ⟨rfl, rfl, rfl, by decide +kernel, rfl, by decide +kernel, by decide +kernel⟩
abbrev s_l_changes : Stmt := top 47
theorem sc_l_changes : FnScope ["_law_old", "_law_new", "_law_k"] ["_law_old", "_law_new"] (defScope s_l_changes) := ⟨rfl, rfl, rfl, by decide +kernel, rfl, by decide +kernel, by decide +kernel⟩
abbrev s_l_due : Stmt := top 48
theorem sc_l_due : FnScope ["_law_asks_here", "_law_boons", "_law_place", "_law_thing", "_law_longer"] ["_law_asks_here", "_law_boons", "_law_place", "_law_thing"] (defScope s_l_due) := ⟨rfl, rfl, rfl, by decide +kernel, rfl, by decide +kernel, by decide +kernel⟩
abbrev s_l_right : Stmt := top 49
theorem sc_l_right : FnScope ["_law_jar_here", "_law_asks_here", "_law_boons", "_law_thing", "_law_place", "_law_due_here", "_law_handed", "_law_kept", "_law_turn", "_law_answer"] ["_law_jar_here", "_law_asks_here", "_law_boons", "_law_thing"] (defScope s_l_right) := ⟨rfl, rfl, rfl, by decide +kernel, rfl, by decide +kernel, by decide +kernel⟩
abbrev s_l_full_right : Stmt := top 50
theorem sc_l_full_right : FnScope ["_law_asks_here", "_law_place", "_law_thing"] [] (defScope s_l_full_right) := ⟨rfl, rfl, rfl, by decide +kernel, rfl, by decide +kernel, by decide +kernel⟩
abbrev s_law : Stmt := top 51
theorem sc_law : FnScope ["_law_script", "_law_k", "_law_jar_here", "_law_most", "_law_names", "_law_asks_here", "_law_boons", "_law_turn", "_law_thing"] ["_law_script"] (defScope s_law) := ⟨rfl, rfl, rfl, by decide +kernel, rfl, by decide +kernel, by decide +kernel⟩
structure Txt (K : PySem.W.Frag) (mg : Str → Option Value) : Prop where
  n_abs : mg "abs" = none
  n_all : mg "all" = none
  n_bool : mg "bool" = none
  n_dict : mg "dict" = none
  n_enumerate : mg "enumerate" = none
  n_int : mg "int" = none
  n_isinstance : mg "isinstance" = none
  n_len : mg "len" = none
  n_list : mg "list" = none
  n_max : mg "max" = none
  n_min : mg "min" = none
  n_range : mg "range" = none
  n_repr : mg "repr" = none
  n_sorted : mg "sorted" = none
  n_str : mg "str" = none
  n_sum : mg "sum" = none
  n_tuple : mg "tuple" = none
  n_zip : mg "zip" = none
  c_DEEPEST_ROW : ∃ t, mg "DEEPEST_ROW" = some (.int 2000000 t)
  c_LONGEST_THING : ∃ t, mg "LONGEST_THING" = some (.int 8 t)
  c_MOST_NEAR : ∃ t, mg "MOST_NEAR" = some (.int 400 t)
  c_MOST_TIMES : ∃ t, mg "MOST_TIMES" = some (.int 1000000000000000000000000000000 t)
  sys : ∃ o, K.lookup sysModules = some o
structure Own_put_in (K : PySem.W.Frag) (mg : Str → Option Value) (f : Addr) (fd : FuncData) : Prop where
  F : Fun K "put_in" "put_in" s_put_in f fd
  m : mg "put_in" = some (.ref f)
  kp_put_in_3_graces : KPl K fd ["row", "place", "thing", "graces"] 3 ["graces"] [some 0, some 1, some 2, some 3]
  kp_put_in_3 : KPl K fd ["row", "place", "thing", "graces"] 3 [] [some 0, some 1, some 2, none]
noncomputable abbrev den_is_whole := Sh.den_is_whole
noncomputable abbrev den_are_small := Sh.den_are_small
noncomputable abbrev den_is_thing := Sh.den_is_thing
noncomputable abbrev den_is_row : List D → Option (D × List D) := denLook MC.rowD
noncomputable abbrev den_check_row := Sh.den_check_row
noncomputable abbrev den_count_asks := Sh.den_count_asks
noncomputable abbrev denN_count_asks := Sh.denN_count_asks
noncomputable abbrev den_check_near := Sh.den_check_near
noncomputable abbrev den_laid_out := Sh.den_laid_out
noncomputable abbrev denN_laid_out := Sh.denN_laid_out
noncomputable abbrev den_near := Sh.den_near
noncomputable abbrev den_check_thing := Sh.den_check_thing
noncomputable abbrev den_check_place := Sh.den_check_place
noncomputable abbrev den_lowest_of := Sh.den_lowest_of
noncomputable abbrev den_with_lowest := Sh.den_with_lowest
noncomputable abbrev den_checked_graces := Sh.den_checked_graces
noncomputable abbrev den_depth_behind := Sh.den_depth_behind
noncomputable abbrev den_reckoned := Sh.den_reckoned
noncomputable abbrev den_changes := Sh.den_changes
noncomputable abbrev den_put_in := Sh.den_put_in
noncomputable abbrev den_l_jar := Sh.den_l_jar
noncomputable abbrev den_l_pour := Sh.den_l_pour
noncomputable abbrev den_l_named := Sh.den_l_named
noncomputable abbrev den_l_asks := Sh.den_l_asks
noncomputable abbrev den_l_graced := Sh.den_l_graced
noncomputable abbrev den_l_folded := Sh.den_l_folded
noncomputable abbrev den_l_depth_of := Sh.den_l_depth_of
noncomputable abbrev den_l_depths := Sh.den_l_depths
noncomputable abbrev den_l_changes := Sh.den_l_changes
noncomputable def body_l_due : Ev → Option Out := (sSeq (sSet 4 (dCall (den_l_depths) [] [] (aCons (dFe (d2 pCat (dFe (d2 pCat (dFe (dSl pSlL (dVar 0) oNo (oSo (dVar 2)))) (dLst (aCons (dFl (dVar 3)) aNil)))) (dFe (dSl pSlL (dVar 0) (oSo (dVar 2)) oNo)))) (aCons (dVar 1) aNil))))
    (sRt (dTup (aCons (dFl (d2 pIx (dVar 4) (dVar 2))) (aCons (dCall (den_l_changes) [] [] (aCons (dCall (den_l_depths) [] [] (aCons (dVar 0) (aCons (dVar 1) aNil))) (aCons (dFe (d2 pCat (dFe (dSl pSlL (dVar 4) oNo (oSo (dVar 2)))) (dFe (dSl pSlL (dVar 4) (oSo (d2 pAdd (dVar 2) (dC (.int 1)))) oNo)))) aNil))) aNil)))))
noncomputable def den_l_due : List D → Option (D × List D) := dFn 5 [] body_l_due
noncomputable def bd_l_right_1 : Ev → Option Out := (sSeq (sSet 9 (dCall (den_put_in) [] [] (aPl [some 0, some 1, some 2, some 3] (aCons (dVar 6) (aCons (dFl (dVar 4)) (aCons (dFl (dVar 3)) aNil))) (aCons (dVar 2) aNil))))
    (sSeq (sIf (tOrD (dBool (d2 pNeS (dL pRepr (aCons (dVar 9) aNil)) (dL pRepr (aCons (dVar 5) aNil)))) (dBool (d2 pNeS (dL pRepr (aCons (dLst (aCons (dVar 6) (aCons (dVar 2) aNil))) aNil)) (dVar 7))))
    sNo
    sNil)
    (sSeq (sDo (dMutT mAppend 9 1 [] (aCons (dTup (aCons (dC (.int 0)) (aCons (dC (.int 0)) (aCons (dC (.int 0)) aNil)))) aNil)))
    (sDo (dMutT mPopAt 9 1 [] (aCons (dC (.int 0)) aNil))))))
noncomputable def body_l_right : Ev → Option Out := (sSeq (sSet 4 (d2 pIx (dLst (aCons (dC (.int 0)) (aCons (dL pLen (aCons (dVar 1) aNil)) (aCons (dCall (den_l_pour) [0] [] (aOwn 0 (aCons (d2 pAdd (dL pLen (aCons (dVar 1) aNil)) (dC (.int 1))) aNil))) (aCons (dCall (den_l_pour) [0] [] (aOwn 0 (aCons (d2 pAdd (dL pLen (aCons (dVar 1) aNil)) (dC (.int 1))) aNil))) aNil))))) (dCall (den_l_pour) [0] [] (aOwn 0 (aCons (dC (.int 4)) aNil)))))
    (sSeq (sSet 5 (dCall (den_l_due) [] [] (aCons (dVar 1) (aCons (dVar 2) (aCons (dFl (dVar 4)) (aCons (dFl (dVar 3)) aNil))))))
    (sSeq (sSet 6 (d2 pIx (dLst (aCons (dVar 1) (aCons (dFl (dL pTuple (aCons (dVar 1) aNil))) (aCons (dCall (den_l_folded) [0] [] (aOwn 0 (aCons (dVar 1) aNil))) aNil)))) (dCall (den_l_pour) [0] [] (aOwn 0 (aCons (dC (.int 3)) aNil)))))
    (sSeq (sSet 7 (dL pRepr (aCons (dLst (aCons (dVar 6) (aCons (dVar 2) aNil))) aNil)))
    (sSeq (sFor (iStL rng1P (aCons (dC (.int 2)) aNil)) (bFl true (bName 8)) bd_l_right_1)
    (sRt (vOrD (d2 (pEqK true) (dVar 2) (dC (.dct []))) (d2 pEqS (dL pRepr (aCons (dCall (den_put_in) [] [] (aPl [some 0, some 1, some 2, none] (aCons (dVar 6) (aCons (dFl (dVar 4)) (aCons (dFl (dVar 3)) aNil))) aNil)) aNil)) (dL pRepr (aCons (dVar 5) aNil))))))))))
noncomputable def den_l_right : List D → Option (D × List D) := dFn 10 [0] body_l_right
noncomputable def bd_l_full_right_1 : Ev → Option Out := (sIf (dBool (d2 pNeS (dL pRepr (aCons (dCall (den_put_in) [] [] (aPl [some 0, some 1, some 2, none] (aCons (dVar 0) (aCons (dFl (dVar 1)) (aCons (dFl (dVar 2)) aNil))) aNil)) aNil)) (dL pRepr (aCons (dCall (den_l_due) [] [] (aCons (dVar 0) (aCons (dC (.dct [])) (aCons (dFl (dVar 1)) (aCons (dFl (dVar 2)) aNil))))) aNil))))
    sNo
    sNil)
noncomputable def body_l_full_right : Ev → Option Out := (sSeq (sSet 0 (dFe (d2 pRep (dLst (aCons (dC (.str ("a" : Str))) (aCons (dC (.str ("b" : Str))) (aCons (dC (.str ("c" : Str))) (aCons (dC (.str ("b" : Str))) aNil))))) (dC (.int 100)))))
    (sSeq (sFor (iSt seqD (dLst (aCons (dTup (aCons (dC (.int 400)) (aCons (dC (.str ("c" : Str))) aNil))) (aCons (dTup (aCons (dC (.int 0)) (aCons (dC (.str ("d" : Str))) aNil))) (aCons (dTup (aCons (dC (.int 200)) (aCons (dC (.str ("a" : Str))) aNil))) aNil))))) (bFl true (bTup 2 (bCons (bName 1) (bCons (bName 2) bNil)))) bd_l_full_right_1)
    (sRt (dC (.bl true)))))
noncomputable def den_l_full_right : List D → Option (D × List D) := dFn 3 [] body_l_full_right
noncomputable def bd_law_1 : Ev → Option Out := (sSeq (sSet 8 (d2 pIx (dFe (d2 pCat (dVar 4) (dLst (aCons (dC (.str ("newone" : Str))) aNil)))) (dCall (den_l_pour) [2] [] (aOwn 2 (aCons (d2 pAdd (dL pLen (aCons (dVar 4) aNil)) (dC (.int 1))) aNil)))))
    (sSeq (sIf (tNotD (dBool (dCall (den_l_right) [2] [] (aOwn 2 (aCons (dVar 5) (aCons (dVar 6) (aCons (dFl (dVar 8)) aNil)))))))
    sNo
    sNil)
    (sIf (tAndD (dBool (d2 pEqS (dVar 7) (dC (.int 1)))) (dBool (d2 pNeD (dVar 5) (dLst aNil))))
    (sSeq (sDo (dMutL mAppend 5 [] (aCons (dFl (dMutL mPopAt 5 [] (aCons (dC (.int 0)) aNil))) aNil)))
    (sPutK 6 [] (d2 pSub (dCall (den_l_pour) [2] [] (aOwn 2 (aCons (dC (.int 4)) aNil))) (dC (.int 1))) (d2 pIx (dVar 4) (dC (.int 0)))))
    sNil)))
noncomputable def bd_law_2 : Ev → Option Out := (sSeq (sSet 4 (dCall (den_l_named) [2] [] (aOwn 2 (aCons (d2 pAdd (dC (.int 1)) (dCall (den_l_pour) [2] [] (aOwn 2 (aCons (d2 pIx (dLst (aCons (dC (.int 4)) (aCons (dC (.int 12)) (aCons (dC (.int 59)) aNil)))) (dCall (den_l_pour) [2] [] (aOwn 2 (aCons (dC (.int 3)) aNil)))) aNil)))) aNil))))
    (sSeq (sSet 5 (dCall (den_l_asks) [2] [] (aOwn 2 (aCons (dVar 4) (aCons (dFl (dVar 3)) aNil)))))
    (sSeq (sSet 6 (dCall (den_l_graced) [2] [] (aOwn 2 (aCons (dVar 4) aNil))))
    (sFor (iStL rng1P (aCons (d2 pSub (dC (.int 6)) (d2 pMul (dC (.int 3)) (dL pInt (aCons (d2 pGt (dL pLen (aCons (dVar 5) aNil)) (dC (.int 200))) aNil)))) aNil)) (bFl true (bName 7)) bd_law_1))))
noncomputable def bd_law_3 : Ev → Option Out := (sSeq (sSet 2 (dCall (den_l_jar) [] [] (aCons (dVar 0) (aCons (dFl (dVar 1)) aNil))))
    (sFor (iSt seqD (dLst (aCons (dC (.int 40)) (aCons (d2 pIx (dLst (aCons (dC (.int 40)) (aCons (dC (.int 150)) (aCons (dC (.int 400)) aNil)))) (dCall (den_l_pour) [2] [] (aOwn 2 (aCons (dC (.int 3)) aNil)))) aNil)))) (bFl true (bName 3)) bd_law_2))
noncomputable def body_law : Ev → Option Out := (sSeq (sFor (iStL rng1P (aCons (dL pMax2 (aCons (dC (.int 1)) (aCons (dL pMin2 (aCons (dC (.int 4)) (aCons (dL pLen (aCons (dVar 0) aNil)) aNil))) aNil))) aNil)) (bFl true (bName 1)) bd_law_3)
    (sSeq (sIf (tNotD (dBool (dCall (den_l_full_right) [] [] aNil)))
    sNo
    sNil)
    (sSeq (sIf (dBool (d2 pNeD (dCall (den_put_in) [] [] (aPl [some 0, some 1, some 2, none] (aCons (dLst (aCons (dTup (aCons (dLst (aCons (dC (.str ("a" : Str))) aNil)) (aCons (dC (.int 400)) aNil))) aNil)) (aCons (dC (.int 0)) (aCons (dC (.str ("b" : Str))) aNil))) aNil)) (dTup (aCons (dC .non) (aCons (dLst aNil) aNil)))))
    sNo
    sNil)
    (sRt (vAndD (d2 pEqD (dCall (den_put_in) [] [] (aPl [some 0, some 1, some 2, none] (aCons (dLst aNil) (aCons (dC (.int 0)) (aCons (dC (.str ("a" : Str))) aNil))) aNil)) (dTup (aCons (dC .non) (aCons (dLst aNil) aNil)))) (d2 pEqD (dCall (den_put_in) [] [] (aPl [some 0, some 1, some 2, none] (aCons (dLst (aCons (dC (.str ("a" : Str))) (aCons (dC (.str ("b" : Str))) (aCons (dC (.str ("a" : Str))) aNil)))) (aCons (dC (.int 1)) (aCons (dC (.str ("c" : Str))) aNil))) aNil)) (dTup (aCons (dC .non) (aCons (dLst (aCons (dTup (aCons (dC (.int 2)) (aCons (dC (.int 1)) (aCons (dC (.int 2)) aNil)))) aNil)) aNil)))))))))
noncomputable def den_law : List D → Option (D × List D) := dFn 9 [] body_law
end V48

set_option Elab.async false
set_option linter.all false
set_option maxRecDepth 100000
set_option maxHeartbeats 4000000
set_option exponentiation.threshold 20000
namespace V48H
open PySem PySem.Spec L2 MC HR V48
open PyProof.Rows hiding St
section
variable {P : Program} {w : World} {K : PySem.W.Frag} {mg : Str → Option Value} {base : Heap}
variable {f_is_whole f_is_thing f_is_row f_looks_again f_are_small f_are_things : Addr} {fd_is_whole fd_is_thing fd_is_row fd_looks_again fd_are_small fd_are_things : FuncData}

theorem ok_is_whole0 (T : Txt K mg) (O_is_whole : VD.Own K mg "is_whole" s_is_whole f_is_whole fd_is_whole ["value"]) : FnOk P w K mg base CX0 1 f_is_whole fd_is_whole ["value"] (spD0 wholeD) := by
  refine O_is_whole.F.ok sc_is_whole spD0_len (fun cdv A outer s H vs Q E hr h => ?_)
  obtain ⟨x, d, rfl, hd, q⟩ := h
  refine ⟨_, (pss_one (ps_ret (pe_and (pe_callB (k_isi (K := K) rfl) (by rfl) T.n_isinstance (by decide +kernel) (pa_cons (pv 0) (pa_cons (pe_bltn (v := .ty "int") (by rfl) T.n_int (by decide +kernel) rfl) pa_nil))) (pe_one (pe_not (pe_callB (k_isi (K := K) rfl) (by rfl) T.n_isinstance (by decide +kernel) (pa_cons (pv 0) (pa_cons (pe_bltn (v := .ty "bool") (by rfl) T.n_bool (by decide +kernel) rfl) pa_nil)))))))), ?_⟩
  refine ⟨_, rfl, _, _, _, _, _, rfl, .ty _, ty_of hd, kI_int, _, rfl, ?_⟩
  refine ite2 (fun c => ?_) (fun c => ?_)
  · refine ⟨_, rfl, _, _, _, _, _, rfl, .ty _, ty_of hd, kI_bool, _, rfl, ?_⟩
    have e : (!dBool d) = wholeD d := by cases d <;> simp [dInt, dBool, wholeD] at c ⊢
    rw [e]
    exact q H (Same.refl H)
  · have e : wholeD d = false := by cases d <;> simp [dInt, wholeD] at c ⊢
    have q := q H (Same.refl H)
    rw [e] at q
    exact q

theorem ok_is_whole (T : Txt K mg) (O_is_whole : VD.Own K mg "is_whole" s_is_whole f_is_whole fd_is_whole ["value"]) : FnOk P w K mg base CX0 1 f_is_whole fd_is_whole ["value"] (spD wholeD) :=
  weak (ok_is_whole0 T O_is_whole) fun vs H Q E h => by
    obtain ⟨x, d, rfl, hd, hok, hdp, hwd, q⟩ := h
    exact ⟨x, d, rfl, hd, q⟩
theorem ok_looks_again (T : Txt K mg) (G_is_whole : FnOk P w K mg base CX0 1 f_is_whole fd_is_whole ["value"] (spD wholeD)) (O_is_whole : VD.Own K mg "is_whole" s_is_whole f_is_whole fd_is_whole ["value"]) (O_looks_again : VD.Own K mg "_looks_again" s_looks_again f_looks_again fd_looks_again ["part"]) : FnOk P w K mg base CX0 2 f_looks_again fd_looks_again ["part"] (spD againD) := by
  refine O_looks_again.F.ok sc_looks_again spD_len (fun cdv A outer s H vs Q E hr h => ?_)
  obtain ⟨x, d, rfl, hd, hok, hdp, hwd, q⟩ := h
  obtain ⟨tmt, c_MOST_TIMES⟩ := T.c_MOST_TIMES
  refine ⟨_, (pss_cons (ps_if (PW.pt (pw_or (pt_not (pt_val (pe_callB (k_isi (K := K) rfl) (by rfl) T.n_isinstance (by decide +kernel) (pa_cons (pv 0) (pa_cons (pe_bltn (v := .ty "tuple") (by rfl) T.n_tuple (by decide +kernel) rfl) pa_nil))))) (pw_or1 (pt_cmpR op_ne (pe_callB (k_len_seq (K := K) rfl) (by rfl) T.n_len (by decide +kernel) (pa_cons (pv 0) pa_nil)) pe_int (nomark _)))))
    (pss_one (ps_ret pe_bl))
    pss_nil)
    (pss_cons (ps_asg (pv 0) (pg_tup rfl (pgs_cons (pg_name (i := 1) sc_looks_again.nd rfl (Or.inl rfl)) (pgs_cons (pg_name (i := 2) sc_looks_again.nd rfl (Or.inl rfl)) pgs_nil))))
    (pss_cons (ps_if (PW.pt (pw_or (pt_not (pt_val (pe_callB (k_isiT (K := K) rfl) (by rfl) T.n_isinstance (by decide +kernel) (pa_cons (pv 1) (pa_cons (pe_tup (pa_cons (pe_bltn (v := .ty "list") (by rfl) T.n_list (by decide +kernel) rfl) (pa_cons (pe_bltn (v := .ty "tuple") (by rfl) T.n_tuple (by decide +kernel) rfl) pa_nil))) pa_nil))))) (pw_or1 (pt_cmpR op_eq (pe_callB (k_len_seq (K := K) rfl) (by rfl) T.n_len (by decide +kernel) (pa_cons (pv 1) pa_nil)) pe_int (nomark _)))))
    (pss_one (ps_ret pe_bl))
    pss_nil)
    (pss_one (ps_ret (pe_and (pe_call G_is_whole (hr.mono (by omega)) rfl O_is_whole.m O_is_whole.F.kp O_is_whole.b .nil pass0 (pa_cons (pv 2) pa_nil)) (pe_one (pe_chain op_le op_le pe_int (pv 2) (pe_glob (v := .int 1000000000000000000000000000000) rfl c_MOST_TIMES ⟨_, rfl⟩))))))))), ?_⟩
  have no : dTup d = false → againD d = false := fun e => by cases d <;> first | rfl | cases e
  refine ⟨_, rfl, _, _, _, _, _, rfl, .ty _, ty_of hd, kI_tuple, _, rfl, ?_⟩
  refine ite2 (fun c => ?_) (fun c => ?_)
  · have q := q H (Same.refl H)
    rw [no (by simpa using c)] at q
    exact iteT q
  have ct : dTup d = true := by simpa using c
  cases hd with
  | @tup a xs ds ha hs =>
    refine ⟨_, rfl, _, _, rfl, .inr (SqT.of ha), rfl, _, rfl, ?_⟩
    refine ite2 (fun c2 => ?_) (fun c2 => ?_)
    · have q := q H (Same.refl H)
      have e : againD (.tuple ds) = false := by
        unfold againD
        split
        · rename_i r t e
          injection e with e
          rw [e] at hs
          have l := hs.length
          simp [l] at c2
        · rfl
      rw [e] at q
      exact q
    have l2 : xs.length = 2 := by
      simp only [Bool.not_eq_true', decide_eq_false_iff_not, Decidable.not_not, V.int.injEq] at c2
      omega
    match xs, ds, hs, l2 with
    | [v1, v2], [d1, d2], .cons h1 (.cons h2 .nil), _ =>
      refine ⟨_, rfl, a, _, rfl, SqT.of ha, rfl, _, _, rfl, _, _, rfl, rfl, ?_⟩
      have hok2 : okD d1 = true ∧ okD d2 = true := by simpa [okD, oksD] using hok
      have hdp2 : d2.depth ≤ 60 := by simp only [PyData.depth, PyData.depthAll] at hdp; omega
      refine ⟨_, rfl, by decide, fun p hp => ?_⟩
      have s1 : Same H (upd H p (.tup [.ty "list", .ty "tuple"])) := fun b o e => by rw [upd_ne (ne_of_none e hp)]; exact e
      refine ⟨_, _, _, _, _, _, rfl, upd_same, cl_seq, ty_of (h1.mono s1), kit_seq, _, rfl, ?_⟩
      refine ite2 (fun c3 => ?_) (fun c3 => ?_)
      · have e : againD (.tuple [d1, d2]) = false := by
          have z : dSeq d1 = false := by simpa using c3
          cases d2 <;> first | rfl | simp [againD, z]
        have q := q _ s1
        rw [e] at q
        exact iteT q
      have k1 : dSeq d1 = true := by simpa using c3
      obtain ⟨a1, xs1, rfl, hx, hs1⟩ := h1.seq k1
      refine ⟨_, rfl, _, _, rfl, (hx.mono s1).lt, rfl, _, rfl, ?_⟩
      refine ite2 (fun c4 => ?_) (fun c4 => ?_)
      · have z : xs1 = [] := by
          simp only [decide_eq_true_eq, V.int.injEq] at c4
          exact List.length_eq_zero_iff.mp (by omega)
        have e : againD (.tuple [d1, d2]) = false := by
          have z3 : elemsD d1 = [] := List.length_eq_zero_iff.mp (by rw [← hs1.length, z]; rfl)
          have z2 : dNil d1 = true := by rw [dNil_elems k1, z3]; rfl
          cases d2 <;> first | rfl | simp [againD, z2]
        have q := q _ s1
        rw [e] at q
        exact q
      have k2 : dNil d1 = false := by
        rw [dNil_elems k1]
        cases e : elemsD d1 with
        | nil =>
          have l := hs1.length
          rw [e] at l
          simp [l] at c4
        | cons _ _ => rfl
      refine ⟨_, rfl, v2, d2, rfl, h2.mono s1, hok2.2, hdp2, by simp only [wD, wDs] at hwd; omega, fun H2 s2 => ⟨_, rfl, ?_⟩⟩
      have q := q H2 (s1.trans s2)
      refine ite2 (fun c5 => ?_) (fun c5 => ?_)
      · cases h2 with
        | int t =>
          refine ⟨_, rfl, _, _, rfl, rfl, _, rfl, ?_⟩
          refine ite2 (fun c6 => ?_) (fun c6 => ?_)
          · refine ⟨_, _, rfl, rfl, ?_⟩
            have e : againD (.tuple [d1, .int t]) = decide (t ≤ 1000000000000000000000000000000) := by
              have c6 : (1 : Int) ≤ t := by simpa using c6
              simp [againD, k1, k2, timesOk, c6]
            rw [e] at q
            exact q
          · have e : againD (.tuple [d1, .int t]) = false := by
              have c6 : ¬ (1 : Int) ≤ t := by simpa using c6
              simp [againD, k1, k2, timesOk, c6]
            rw [e] at q
            exact q
        | _ => cases c5
      · have e : againD (.tuple [d1, d2]) = false := by
          cases d2 <;> first | rfl | simp [wholeD] at c5
        rw [e] at q
        exact q
  | _ => cases ct
end
section
variable {P : Program} {w : World} {K : PySem.W.Frag} {mg : Str → Option Value} {base : Heap}
variable {f_is_whole f_is_thing f_is_row f_looks_again f_are_small f_are_things : Addr} {fd_is_whole fd_is_thing fd_is_row fd_looks_again fd_are_small fd_are_things : FuncData}
theorem ok_are_small (T : Txt K mg) (O_are_small : VD.Own K mg "are_small" s_are_small f_are_small fd_are_small ["signs"]) : FnOk P w K mg base CX0 1 f_are_small fd_are_small ["signs"] spSm := by
  refine O_are_small.F.ok sc_are_small (fun vs H Q E h => by obtain ⟨z, rfl, _⟩ := h; rfl) (fun cdv A outer s H vs Q E hr h => ?_)
  obtain ⟨z, rfl, hz, q⟩ := h
  refine ⟨_, (pss_one (ps_ret (pe_or (pe_cmpR op_eq (pv 0) pe_str (nomark _)) (pe_one (pe_and (pe_m0 PySem.F.slot_str_isascii PySem.F.type_str_isascii mt_isascii (pv 0)) (pe_and (pe_m0 PySem.F.slot_str_isalpha PySem.F.type_str_isalpha mt_isalpha (pv 0)) (pe_one (pe_cmpR op_eq (pv 0) (pe_lower (pv 0)) (nomark _))))))))), ?_⟩
  rw [← small_look] at q
  have e0 : decide (V.str z = V.str (Str.ofString "")) = decide (z = Str.empty) := by
    have : Str.ofString "" = Str.empty := by decide +kernel
    rw [this]
    simp
  refine ⟨_, rfl, rfl, _, rfl, ?_⟩
  rw [e0]
  refine ite2 (fun c => ?_) (fun c => ?_)
  · rw [c, Bool.true_or] at q
    exact q
  have c : decide (z = Str.empty) = false := by simpa using c
  rw [c, Bool.false_or] at q
  refine ⟨_, rfl, ⟨_, rfl⟩, z, rfl, rfl, trivial, _, rfl, ?_⟩
  refine ite2 (fun c1 => ?_) (fun c1 => ?_)
  · rw [c1, Bool.true_and] at q
    refine ⟨_, rfl, ⟨_, rfl⟩, z, rfl, rfl, trivial, _, rfl, ?_⟩
    refine ite2 (fun c2 => ?_) (fun c2 => ?_)
    · rw [c2, Bool.true_and] at q
      have e1 : decide (V.str z = V.str (Txt.lower z)) = decide (z = Txt.lower z) := by simp
      refine ⟨_, rfl, _, rfl, ⟨_, rfl⟩, z, rfl, rfl, hz, rfl, ?_⟩
      rw [e1]
      exact q
    · have c2 : Txt.isalpha z = false := by simpa using c2
      rw [c2, Bool.false_and] at q
      exact q
  · have c1 : Txt.isascii z = false := by simpa using c1
    rw [c1, Bool.false_and] at q
    exact q
theorem ok_are_things (T : Txt K mg) (G_are_small : FnOk P w K mg base CX0 1 f_are_small fd_are_small ["signs"] spSm) (O_are_small : VD.Own K mg "are_small" s_are_small f_are_small fd_are_small ["signs"]) (O_are_things : VD.Own K mg "are_things" s_are_things f_are_things fd_are_things ["values"]) : FnOk P w K mg base CX0 2 f_are_things fd_are_things ["values"] spTh := by
  refine O_are_things.F.ok sc_are_things (fun vs H Q E h => by obtain ⟨D, zs, rfl, _⟩ := h; rfl) (fun cdv A outer s H vs Q E hr h => ?_)
  obtain ⟨D, zs, rfl, hD, hn, hz, q⟩ := h
  obtain ⟨tmt, c_LONGEST_THING⟩ := T.c_LONGEST_THING
  refine ⟨_, (pss_cons (ps_lock (ps_setLc (i := 1) (own := [("text", 2)]) rfl sc_are_things.nd rfl rfl (sw_true rfl rfl rfl (by decide +kernel)) (pi_keys (pv 0)) (blkOk_by (own := [("text", 2)]) (N := ["values", "texts", "text"]) (sc := defScope s_are_things) (by decide +kernel)) (fun _ _ _ _ _ => (pg_name (i := 2) sc_are_things.nd rfl (Or.inl rfl))) (fun _ _ _ _ _ => pts_one (PW.pt (pw_and (pt_val (pe_callB (k_isi (K := K) rfl) (by rfl) T.n_isinstance (by decide +kernel) (pa_cons (pv 2) (pa_cons (pe_bltn (v := .ty "str") (by rfl) T.n_str (by decide +kernel) rfl) pa_nil)))) (pw_and1 (pt_chain op_le op_le pe_int (pe_callB (k_len_str (K := K) rfl) (by rfl) T.n_len (by decide +kernel) (pa_cons (pv 2) pa_nil)) (pe_glob (v := .int 8) rfl c_LONGEST_THING ⟨_, rfl⟩)))))) (fun _ _ _ _ _ => (pv 2))))
    (pss_one (ps_ret (pe_and (pe_cmpR op_eq (pe_callB (k_len_seq (K := K) rfl) (by rfl) T.n_len (by decide +kernel) (pa_cons (pv 1) pa_nil)) (pe_callB call_lenD (by rfl) T.n_len (by decide +kernel) (pa_cons (pv 0) pa_nil)) (nomark _)) (pe_one (pe_call G_are_small (hr.mono (by omega)) rfl O_are_small.m O_are_small.F.kp O_are_small.b .nil pass0 (pa_cons (pe_join pe_str (pv 1)) pa_nil))))))), ?_⟩
  refine ⟨D, _, hD, trivial, fun od => ?_⟩
  refine ⟨_, rfl, D, od, rfl, .inl ⟨_, upd_same, fun L hL => lc_it (walk_keys (o := od)) (fun i H' => H' D = some (.frz od (.dK (setK zs))) ∧ (∀ b o, b ≠ D → H b = some o → H' b = some o) ∧ H' L = some (.lst (((zs.take i).filter midZ).map V.str))) ?_ (fun i H' _ p => p.1) ?_ ?_⟩⟩
  · have LD : L ≠ D := fun z => by rw [z, upd_same] at hL; cases hL
    refine ⟨by rw [upd_ne LD.symm, upd_same], fun b o hb e => ?_, by rw [upd_same]; rfl⟩
    rw [upd_ne (ne_of_none (by rw [upd_ne hb]; exact e) hL), upd_ne hb]
    exact e
  · rintro i x _ H1 hi ⟨h1, h2, h3⟩ ⟨rfl, k, v, hk, rfl⟩
    have hkz : ∃ z, zs[i]? = some z ∧ k = Sum.inr z := by
      unfold setK at hk
      rw [List.getElem?_map] at hk
      cases e : zs[i]? with
      | none => rw [e] at hk; cases hk
      | some z => rw [e] at hk; cases hk; exact ⟨z, rfl, rfl⟩
    obtain ⟨z, ez, rfl⟩ := hkz
    have hz9 := hz z (List.mem_of_getElem? ez)
    have hz2 : z.length ≤ sizeLine := Nat.le_trans hz9 (by decide)
    have LD : L ≠ D := fun z => by rw [z, h1] at h3; cases h3
    have tk : zs.take (i + 1) = zs.take i ++ [z] := take_more ez
    have len : ((zs.take i).filter midZ).length ≤ 2000 := by
      have h1 := List.length_filter_le midZ (zs.take i)
      rw [List.length_take] at h1
      omega
    have yes : midZ z = true → ∃ acc, H1 L = some (HO.lst acc) ∧ acc.length < sizeLine ∧ upd H1 L (HO.lst (acc ++ [V.str z])) D = some (HO.frz od (HO.dK (setK zs))) ∧
        (∀ (b : Addr) (o : HO), b ≠ D → H b = some o → upd H1 L (HO.lst (acc ++ [V.str z])) b = some o) ∧ upd H1 L (HO.lst (acc ++ [V.str z])) L = some (HO.lst (List.map V.str (List.filter midZ (List.take (i + 1) zs)))) := fun m => by
      refine ⟨_, h3, by rw [List.length_map]; exact Nat.lt_of_le_of_lt len (by decide), by rw [upd_ne LD.symm]; exact h1, fun b o hb e => ?_, ?_⟩
      · have LH : b ≠ L := fun q => by rw [q] at e hb; rw [upd_ne hb, e] at hL; cases hL
        rw [upd_ne LH]; exact h2 b o hb e
      · rw [upd_same, tk, List.filter_append, List.map_append]
        simp [m]
    have no : midZ z = false → H1 D = some (HO.frz od (HO.dK (setK zs))) ∧ (∀ (b : Addr) (o : HO), b ≠ D → H b = some o → H1 b = some o) ∧ H1 L = some (HO.lst (List.map V.str (List.filter midZ (List.take (i + 1) zs)))) := fun m => by
      refine ⟨h1, h2, ?_⟩
      rw [tk, List.filter_append]
      simpa [m] using h3
    refine ⟨rfl, _, rfl, _, _, _, _, _, rfl, .ty _, .base (.str z), kit_ty (by decide +kernel), _, rfl, iteT ?_⟩
    refine ⟨_, rfl, z, rfl, hz2, _, _, rfl, rfl, _, rfl, ?_⟩
    refine ite2 (fun c1 => ?_) (fun c1 => ?_)
    · refine ⟨_, _, rfl, rfl, _, rfl, ?_⟩
      refine ite2 (fun c2 => ?_) (fun c2 => ?_)
      · exact ⟨_, rfl, yes (by unfold midZ; simp at c1 c2 ⊢; omega)⟩
      · exact no (by unfold midZ; simp at c1 c2 ⊢; omega)
    · exact ⟨_, rfl, iteF (no (by unfold midZ; simp at c1 ⊢; omega))⟩
  · rintro H1 ⟨h1, h2, h3⟩
    have full : zs.take (setK zs).length = zs := List.take_of_length_le (by simp [setK])
    rw [full] at h3
    have LD : L ≠ D := fun z => by rw [z, h1] at h3; cases h3
    have sm : Same H (upd H1 D (.dK (setK zs))) := fun b o e => by
      by_cases hb : b = D
      · subst hb; rw [upd_same]; rw [hD] at e; exact e
      · rw [upd_ne hb]; exact h2 b o hb e
    have hL2 : upd H1 D (.dK (setK zs)) L = some (.lst ((zs.filter midZ).map V.str)) := by rw [upd_ne LD]; exact h3
    refine ⟨h1, ?_⟩
    have q := q _ sm
    rw [mid_all] at q
    have ll : ((zs.filter midZ).map V.str).length = (zs.filter midZ).length := by simp
    have lk : (setK zs).length = zs.length := by simp [setK]
    have e1 : decide (V.int ((zs.filter midZ).map V.str).length = V.int (setK zs).length) = decide ((zs.filter midZ).length = zs.length) := by
      rw [ll, lk, Bool.eq_iff_iff, decide_eq_true_eq, decide_eq_true_eq, V.int.injEq, Int.natCast_inj]
    refine ⟨_, rfl, L, _, rfl, .inl (SqL.of hL2), _, rfl, D, _, rfl, upd_same, rfl, _, rfl, ?_⟩
    rw [e1]
    refine ite2 (fun c => ?_) (fun c => ?_)
    · rw [c, Bool.true_and] at q
      have sum8 : ∀ l : List Str, (∀ z ∈ l, z.length ≤ 9) → (l.map (·.length)).sum ≤ 9 * l.length := by
        intro l
        induction l with
        | nil => intro _; simp
        | cons z l ih =>
          intro h
          have h1 := h z (by simp)
          have h2 := ih fun y hy => h y (by simp [hy])
          simp only [List.map_cons, List.sum_cons, List.length_cons]
          omega
      have s9 := sum8 (zs.filter midZ) fun z hz' => hz z (List.mem_filter.mp hz').1
      have lf := List.length_filter_le midZ zs
      refine ⟨⟨_, rfl⟩, _, rfl, Str.ofString "", L, zs.filter midZ, rfl, rfl, .inl (SqL.of hL2), ?_, ?_⟩
      · have : (Str.ofString "").length = 0 := by decide +kernel
        rw [this]; omega
      · have ee : Str.ofString "" = Str.empty := by decide +kernel
        rw [TL.join_eq, ee]
        refine ⟨_, rfl, ?_, ?_⟩
        · rw [joined_len]; omega
        · rw [joined_all]
          exact q
    · have c : decide ((zs.filter midZ).length = zs.length) = false := by simpa using c
      rw [c, Bool.false_and] at q
      exact q
theorem ok_is_thing (T : Txt K mg) (G_are_small : FnOk P w K mg base CX0 1 f_are_small fd_are_small ["signs"] spSm) (O_are_small : VD.Own K mg "are_small" s_are_small f_are_small fd_are_small ["signs"]) (O_is_thing : VD.Own K mg "is_thing" s_is_thing f_is_thing fd_is_thing ["thing"]) : FnOk P w K mg base CX0 2 f_is_thing fd_is_thing ["thing"] (spD thingD) := by
  refine O_is_thing.F.ok sc_is_thing spD_len (fun cdv A outer s H vs Q E hr h => ?_)
  obtain ⟨x, d, rfl, hd, hok, hdp, hwd, q⟩ := h
  obtain ⟨tmt, c_LONGEST_THING⟩ := T.c_LONGEST_THING
  refine ⟨_, (pss_one (ps_ret (pe_and (pe_callB (k_isi (K := K) rfl) (by rfl) T.n_isinstance (by decide +kernel) (pa_cons (pv 0) (pa_cons (pe_bltn (v := .ty "str") (by rfl) T.n_str (by decide +kernel) rfl) pa_nil))) (pe_and (pe_chain op_le op_le pe_int (pe_callB (k_len_str (K := K) rfl) (by rfl) T.n_len (by decide +kernel) (pa_cons (pv 0) pa_nil)) (pe_glob (v := .int 8) rfl c_LONGEST_THING ⟨_, rfl⟩)) (pe_one (pe_call G_are_small (hr.mono (by omega)) rfl O_are_small.m O_are_small.F.kp O_are_small.b .nil pass0 (pa_cons (pv 0) pa_nil))))))), ?_⟩
  refine ⟨_, rfl, _, _, _, _, _, rfl, .ty _, ty_of hd, kI_str, _, rfl, ?_⟩
  have q := q H (Same.refl H)
  refine ite2 (fun c => ?_) (fun c => ?_)
  · cases hd with
    | str z =>
      have hz : z.length ≤ 9 := by simp only [okD, Bool.and_eq_true, decide_eq_true_eq] at hok; exact hok.1
      have hz2 : z.length ≤ sizeLine := Nat.le_trans hz (by decide)
      refine ⟨_, rfl, z, rfl, hz2, _, _, rfl, rfl, _, rfl, ?_⟩
      have e2 : thingD (.str z) = (decide (1 ≤ z.length) && decide (z.length ≤ 8) && z.cps.toList.all isSign) := rfl
      rw [e2] at q
      refine ite2 (fun c1 => ?_) (fun c1 => ?_)
      · refine ⟨_, _, rfl, rfl, _, rfl, ?_⟩
        refine ite2 (fun c2 => ?_) (fun c2 => ?_)
        · have h1 : 1 ≤ z.length := by simp at c1; omega
          have h2 : z.length ≤ 8 := by simp at c2; omega
          rw [decide_eq_true h1, decide_eq_true h2, Bool.true_and, Bool.true_and] at q
          exact ⟨_, rfl, z, rfl, by omega, q⟩
        · have h2 : ¬ z.length ≤ 8 := by simp at c2; omega
          rw [decide_eq_false h2, Bool.and_false, Bool.false_and] at q
          exact q
      · have h1 : ¬ 1 ≤ z.length := by simp at c1; omega
        rw [decide_eq_false h1, Bool.false_and, Bool.false_and] at q
        exact ⟨_, rfl, iteF q⟩
    | _ => cases c
  · have e : thingD d = false := by cases d <;> first | rfl | simp [dStr] at c
    rw [e] at q
    exact q
end
section
variable {P : Program} {w : World} {K : PySem.W.Frag} {mg : Str → Option Value} {base : Heap}
variable {f_is_whole f_is_thing f_is_row f_looks_again f_are_small f_are_things : Addr} {fd_is_whole fd_is_thing fd_is_row fd_looks_again fd_are_small fd_are_things : FuncData}
theorem ok_is_row (T : Txt K mg) (G_are_things : FnOk P w K mg base CX0 2 f_are_things fd_are_things ["values"] spTh) (G_looks_again : FnOk P w K mg base CX0 2 f_looks_again fd_looks_again ["part"] (spD againD))
    (O_are_things : VD.Own K mg "are_things" s_are_things f_are_things fd_are_things ["values"]) (O_looks_again : VD.Own K mg "_looks_again" s_looks_again f_looks_again fd_looks_again ["part"]) (O_is_row : VD.Own K mg "is_row" s_is_row f_is_row fd_is_row ["thing"]) : FnOk P w K mg base CX0 3 f_is_row fd_is_row ["thing"] (spD rowD) := by
  refine O_is_row.F.ok sc_is_row spD_len (fun cdv A outer s H vs Q E hr h => ?_)
  obtain ⟨x, d, rfl, hd, hok, hdp, hwd, q⟩ := h
  obtain ⟨tmt, c_DEEPEST_ROW⟩ := T.c_DEEPEST_ROW
  refine ⟨_, (pss_cons (ps_if (pt_not (pt_val (pe_callB (k_isiT (K := K) rfl) (by rfl) T.n_isinstance (by decide +kernel) (pa_cons (pv 0) (pa_cons (pe_tup (pa_cons (pe_bltn (v := .ty "list") (by rfl) T.n_list (by decide +kernel) rfl) (pa_cons (pe_bltn (v := .ty "tuple") (by rfl) T.n_tuple (by decide +kernel) rfl) pa_nil))) pa_nil)))))
    (pss_one (ps_ret pe_bl))
    pss_nil)
    (pss_cons (ps_set (i := 1) sc_is_row.nd rfl (Or.inl rfl) (pe_lst (pa_cons (pe_tup (pa_cons (pv 0) (pa_cons pe_int pa_nil))) pa_nil)))
    (pss_cons (ps_while PassesOwn.never (pt_truth (pv 1) (by intro _; rfl))
    (pss_cons (ps_asg (k_bm0 (K := K) rfl (pe_bm0 PySem.F.plainAttrs_list PySem.F.slot_list_pop PySem.F.type_list_pop mt_pop (pv 1))) (pg_tup rfl (pgs_cons (pg_name (i := 2) sc_is_row.nd rfl (Or.inl rfl)) (pgs_cons (pg_name (i := 3) sc_is_row.nd rfl (Or.inl rfl)) pgs_nil))))
    (pss_cons (ps_if (pt_cmpR op_gt (pv 3) (pe_glob (v := .int 2000000) rfl c_DEEPEST_ROW ⟨_, rfl⟩) (nomark _))
    (pss_one (ps_ret pe_bl))
    pss_nil)
    (pss_cons (ps_setLc (i := 4) (own := [("part", 5)]) rfl sc_is_row.nd rfl rfl (sw_true rfl rfl rfl (by decide +kernel)) (k_seq (K := K) rfl (pv 2)) (blkOk_by (own := [("part", 5)]) (N := ["thing", "waiting", "row", "deep", "agains", "part"]) (sc := defScope s_is_row) (by decide +kernel)) (fun _ _ _ _ _ => (pg_name (i := 5) sc_is_row.nd rfl (Or.inl rfl))) (fun _ _ _ _ _ => pts_one (pt_not (pt_val (pe_callB (k_isi (K := K) rfl) (by rfl) T.n_isinstance (by decide +kernel) (pa_cons (pv 5) (pa_cons (pe_bltn (v := .ty "str") (by rfl) T.n_str (by decide +kernel) rfl) pa_nil)))))) (fun _ _ _ _ _ => (pv 5)))
    (pss_cons (ps_for PassesOwn.never rfl (k_list (K := K) rfl (pv 4)) (pg_name (i := 5) sc_is_row.nd rfl (Or.inl rfl))
    (pss_cons (ps_if (pt_not (pt_val (pe_call G_looks_again (hr.mono (by omega)) rfl O_looks_again.m O_looks_again.F.kp O_looks_again.b .nil pass0 (pa_cons (pv 5) pa_nil))))
    (pss_one (ps_ret pe_bl))
    pss_nil)
    (pss_one (ps_expr (k_bm (K := K) rfl (pe_bm PySem.F.plainAttrs_list PySem.F.slot_list_append PySem.F.type_list_append mt_append (pv 1) (pa_cons (pe_tup (pa_cons (pe_ix (k_ix_tup (K := K) rfl) (pv 5) pe_int (fun _ _ => rfl)) (pa_cons (pe_op op_add (pv 3) pe_int) pa_nil))) pa_nil)))))))
    (pss_one (ps_if (PW.pt (pw_and (pt_cmpR op_lt (pe_callB (k_len_seq (K := K) rfl) (by rfl) T.n_len (by decide +kernel) (pa_cons (pv 4) pa_nil)) (pe_callB (k_len_seq (K := K) rfl) (by rfl) T.n_len (by decide +kernel) (pa_cons (pv 2) pa_nil)) (nomark _)) (pw_and1 (pt_not (pt_val (pe_call G_are_things (hr.mono (by omega)) rfl O_are_things.m O_are_things.F.kp O_are_things.b .nil pass0 (pa_cons (pe_dc (own := [("part", 5)]) rfl sc_is_row.nd (k_seq (K := K) rfl (pv 2)) (blkOk_by (own := [("part", 5)]) (N := ["thing", "waiting", "row", "deep", "agains", "part"]) (sc := defScope s_is_row) (by decide +kernel)) (fun _ _ _ _ _ => (pg_name (i := 5) sc_is_row.nd rfl (Or.inl rfl))) (fun _ _ _ _ _ => pts_one (pt_val (pe_callB (k_isi (K := K) rfl) (by rfl) T.n_isinstance (by decide +kernel) (pa_cons (pv 5) (pa_cons (pe_bltn (v := .ty "str") (by rfl) T.n_str (by decide +kernel) rfl) pa_nil))))) (fun _ _ _ _ _ => (pv 5)) (fun _ _ _ _ _ => pe_bl)) pa_nil)))))))
    (pss_one (ps_ret pe_bl))
    pss_nil)))))))
    (pss_one (ps_ret pe_bl))))), ?_⟩
  refine ⟨_, rfl, by decide, fun p hp => ?_⟩
  have s0 := same_new hp (.tup [.ty "list", .ty "tuple"])
  refine ⟨_, _, _, _, _, _, rfl, upd_same, cl_seq, ty_of (hd.mono s0), kit_seq, _, rfl, ?_⟩
  refine ite2 (fun c => ?_) (fun c => ?_)
  · have q := q _ s0
    rw [rowD_seq (by simpa using c)] at q
    exact q
  have k0 : dSeq d = true := by simpa using c
  -- waiting = [(thing, 0)]
  refine ⟨_, rfl, (by show 2 ≤ sizeLine; decide), fun t0 ht0 => ⟨(by show 1 ≤ sizeLine; decide), fun w0 hw0 => ?_⟩⟩
  have hw : H w0 = none := (s0.trans (same_new ht0 _)).free hw0
  have s1 : Same H (upd (upd (upd H p (.tup [.ty "list", .ty "tuple"])) t0 (.tup [x, .int 0])) w0 (.lst [.ref t0])) := (s0.trans (same_new ht0 _)).trans (same_new hw0 _)
  refine ⟨fun m σ H' => ∃ (es : List (V × PyData)) (a b c e : Option V), m = wsum es ∧ σ = [some x, some (.ref w0), a, b, c, e] ∧ Same H H' ∧ H' w0 = some (.lst (es.map (·.1))) ∧
      (∀ e ∈ es, Ent H H' e.1 e.2) ∧ rowD d = (es.all fun e => rowD e.2) ∧ wsum es ≤ wD d, ⟨_, [(.ref t0, d)], _, _, _, _, rfl, rfl, s1, upd_same, ?_, ?_, ?_⟩, ?_⟩
  · intro e he
    rw [List.mem_singleton.mp he]
    refine ⟨t0, x, 0, rfl, ?_, hd, k0, hok, Int.le_refl 0, by simpa using hdp⟩
    rw [upd_ne (ne_of_none upd_same hw0), upd_same]
  · simp
  · simp [wsum, wDs]
  rintro m σ H1 ⟨es, a, b, c, e, rfl, rfl, s2, hl, hes, hrow, hwe⟩
  refine ⟨_, rfl, _, .inl ⟨_, SqL.of hl, rfl⟩, ?_⟩
  refine ite2 (fun c1 => ?yes) (fun c1 => ?no)
  case no =>
    have z : es = [] := by
      cases es with
      | nil => rfl
      | cons _ _ => simp at c1
    subst z
    have q := q H1 s2
    rw [hrow] at q
    exact q
  have ne : es ≠ [] := by rintro rfl; simp at c1
  obtain ⟨es1, ⟨v, r⟩, rfl⟩ := last_split ne
  obtain ⟨t, y, k, rfl, ht, hy, ky, oky, k0', dky⟩ : Ent H H1 v r := hes (v, r) (by simp)
  have hes1 : ∀ e ∈ es1, Ent H H1 e.1 e.2 := fun e he => hes e (by simp [he])
  obtain ⟨ar, xs, rfl, hx, hxs⟩ := hy.seq ky
  have ety : (List.map (·.1) (es1 ++ [(V.ref t, r)])) = es1.map (·.1) ++ [V.ref t] := by simp
  rw [ety] at hl
  refine ⟨fun σ' H' => ∃ m', m' < wsum (es1 ++ [(V.ref t, r)]) ∧ _, fun _ _ z => z, ?_⟩
  have nw : ∀ zs, Same H (upd H1 w0 (.lst zs)) := fun zs => same_mut s2 hw _
  have hl2 := keep_upd hl (es1.map (·.1) ++ [V.ref t]).dropLast
  refine ⟨_, rfl, .inl ⟨rfl, _, SqL.of hl⟩, w0, _, .ref t, rfl, rfl, hl, by simp, t, _, rfl, SqT.of (hl2 _ _ ht), rfl, _, _, rfl, _, _, rfl, rfl, ?_⟩
  refine ⟨_, rfl, _, _, rfl, rfl, _, rfl, ?_⟩
  refine ite2 (fun c2 => ?_) (fun c2 => ?_)
  · exfalso
    have : (2000000 : Int) < k := by simpa using c2
    omega
  have sP := nw (es1.map (·.1) ++ [V.ref t]).dropLast
  have hlP : upd H1 w0 (.lst (es1.map (·.1) ++ [V.ref t]).dropLast) w0 = some (.lst (es1.map (·.1))) := by rw [upd_same]; simp
  have heP : ∀ e ∈ es1, Ent H (upd H1 w0 (.lst (es1.map (·.1) ++ [V.ref t]).dropLast)) e.1 e.2 := fun e he => (hes1 e he).mono hl2
  generalize upd H1 w0 (.lst (es1.map (·.1) ++ [V.ref t]).dropLast) = HP at sP hlP heP ⊢
  have wr : wsum [(V.ref t, r)] = wD r := by simp [wsum, wDs]
  have we : wDs (elemsD r) ≤ wD r := wD_elems r
  have we2 : wDs (elemsD r) < wD r := by cases r <;> first | (simp only [elemsD, wD]; omega) | cases ky
  have w20 : wsum es1 + wDs (elemsD r) ≤ 2000 := by
    rw [wsum_append] at hwe
    omega
  have lenx : xs.length ≤ 2000 := by
    have h1 := hxs.length
    have h2 := len_wDs (elemsD r)
    omega
  have hps := okD_elems oky
  have full : (elemsD r).take xs.length = elemsD r := List.take_of_length_le (by rw [hxs.length]; exact Nat.le_refl _)
  -- agains = [part for part in row if not isinstance(part, str)]
  refine ⟨_, rfl, lc_seqD (K := K) (xs := xs) (hx.mono sP) (fun A i H' => Same HP H' ∧ ∃ acc, H' A = some (.lst acc) ∧ DDs H acc (((elemsD r).take i).filter nStr)) (fun A hA => ⟨same_new hA _, [], upd_same, .nil⟩) ?_ ?_ ?_⟩
  · rintro A i H' hA _ ⟨s3, _⟩
    rcases hx.mono sP with h | h
    · exact (s3 _ _ h).trans h.symm
    · exact (s3 _ _ h).trans h.symm
  · rintro A i xv H' hA e ⟨s3, acc, hA', hacc⟩
    obtain ⟨dv, hdv, hdd⟩ := hxs.get e
    have tk : (elemsD r).take (i + 1) = (elemsD r).take i ++ [dv] := take_more hdv
    refine ⟨rfl, _, rfl, _, _, _, _, _, rfl, .ty _, ty_of (hdd.mono (sP.trans s3)), kI_str, _, rfl, ?_⟩
    have al : acc.length < sizeLine := by
      rw [hacc.length]
      have h1 := List.length_filter_le nStr ((elemsD r).take i)
      rw [List.length_take, ← hxs.length] at h1
      exact Nat.lt_of_le_of_lt (show _ ≤ 2000 by omega) (by decide)
    refine ite2 (fun c3 => ?_) (fun c3 => ?_)
    · refine ⟨_, rfl, acc, hA', al, same_mut s3 hA _, _, upd_same, ?_⟩
      rw [tk, List.filter_append]
      have : nStr dv = true := c3
      simp only [List.filter_cons, this, if_true, List.filter_nil]
      exact hacc.append (.cons hdd .nil)
    · refine ⟨s3, acc, hA', ?_⟩
      rw [tk, List.filter_append]
      have : nStr dv = false := by simpa [nStr] using c3
      simp only [List.filter_cons, this, Bool.false_eq_true, if_false, List.filter_nil, List.append_nil]
      exact hacc
  rintro A H2 hA ⟨s3, ag, hA2, hag⟩
  rw [full] at hag
  have hAH : H A = none := sP.free hA
  have Aw : A ≠ w0 := fun z => by rw [z, hlP] at hA; cases hA
  have sH2 := sP.trans s3
  have lag : ag.length ≤ xs.length := by
    rw [hag.length, hxs.length]
    exact List.length_filter_le _ _
  -- for part in agains
  refine ⟨_, rfl, A, rfl, ⟨_, SqL.of hA2⟩, for_list (K := K) (a := A) (xs := ag) (fun i σ' H' => ∃ (ps : List (V × PyData)) (c : Option V), σ' = [some x, some (.ref w0), some (.ref ar), some (.int k), some (.ref A), c] ∧ Same H H' ∧ H' A = some (.lst ag) ∧
      H' w0 = some (.lst ((es1 ++ ps).map (·.1))) ∧ (∀ e ∈ es1 ++ ps, Ent H H' e.1 e.2) ∧ wsum ps ≤ wDs (((elemsD r).filter nStr).take i) ∧ partsD (((elemsD r).filter nStr).take i) = ps.all fun e => rowD e.2)
      ⟨[], _, rfl, sH2, hA2, by rw [List.append_nil]; exact s3 _ _ hlP, fun e he => (heP e (by simpa using he)).mono fun t zs z => s3 _ _ z, Nat.zero_le _, by simp [partsD]⟩ ?_ ?_ ?_⟩
  · rintro i σ' H' hi ⟨ps, c, rfl, s4, hA4, _⟩
    exact SqL.of hA4
  · rintro i xv σ' H2 hi ⟨ps, c, rfl, s4, hA4, hl4, he4, hw4, hp4⟩
    obtain ⟨dv, hdv, hdd⟩ := hag.get hi
    have mem := List.mem_of_getElem? hdv
    rw [List.mem_filter] at mem
    obtain ⟨memE, nst⟩ := mem
    have nst : dStr dv = false := by simpa [nStr] using nst
    obtain ⟨j, hj⟩ := List.getElem?_of_mem memE
    have okv := oksD_get hps hj
    have wv : wD dv ≤ 2000 := by
      have h1 := wD_le hj
      omega
    have dpv : dv.depth < r.depth := by rw [depth_elems ky]; exact Nat.lt_succ_of_le (depth_le hj)
    refine ⟨_, rfl, xv, dv, rfl, hdd.mono s4, okv, by omega, wv, fun H3 s5 => ⟨_, rfl, ?_⟩⟩
    have hl5 := s5 _ _ hl4
    have hA5 := s5 _ _ hA4
    have he5 : ∀ e ∈ es1 ++ ps, Ent H H3 e.1 e.2 := fun e he => (he4 e he).mono fun t zs z => s5 _ _ z
    have tk : ((elemsD r).filter nStr).take (i + 1) = ((elemsD r).filter nStr).take i ++ [dv] := take_more hdv
    refine ite2 (fun c3 => ?_) (fun c3 => ?_)
    · have q := q H3 (s4.trans s5)
      have z : rowD d = false := by
        rw [hrow, List.all_append]
        have : (elemsD r).all partD = false := by
          rw [List.all_eq_false]
          exact ⟨dv, memE, by rw [part_nstr nst (by simpa using c3)]; simp⟩
        simp [rowD_elems ky, partsD_eq, this]
      rw [z] at q
      exact q
    · -- its row waits
      have c3 : againD dv = true := by simpa using c3
      match dv, hdd, c3 with
      | .tuple [rr, .int tt], @DD.tup _ _ [v1, v2] _ ha2 (.cons h1 (.cons h2 .nil)), c3 =>
        have ha3 := (s4.trans s5) _ _ ha2
        have okr : okD rr = true := by simp only [okD, oksD, Bool.and_eq_true] at okv; exact okv.1
        have kr : dSeq rr = true := by simp only [againD, Bool.and_eq_true] at c3; exact c3.1.1
        have dpr : rr.depth < (PyData.tuple [rr, .int tt]).depth := by simp only [PyData.depth, PyData.depthAll]; omega
        refine ⟨_, rfl, .inl ⟨rfl, _, SqL.of hl5⟩, _, rfl, _, _, _, _, rfl, rfl, SqT.of ha3, atI_nat (j := 0) rfl, _, rfl, _, _, rfl, rfl, (by show 2 ≤ sizeLine; decide), fun t2 ht2 => ?_⟩
        have hw2 : upd H3 t2 (.tup [v1, .int (k + 1)]) w0 = some (.lst ((es1 ++ ps).map (·.1))) := by rw [upd_ne (ne_of_none hl5 ht2)]; exact hl5
        refine ⟨w0, _, _, rfl, rfl, hw2, ?_, ?_⟩
        · rw [List.length_map]
          have h1 : (es1 ++ ps).length ≤ wsum (es1 ++ ps) := by
            have := len_wDs ((es1 ++ ps).map (·.2))
            rw [List.length_map] at this
            exact this
          have h2 : wDs (((elemsD r).filter nStr).take i) ≤ wDs ((elemsD r).filter nStr) := by
            have e := wDs_append (((elemsD r).filter nStr).take i) (((elemsD r).filter nStr).drop i)
            rw [List.take_append_drop] at e
            omega
          have h3 := wDs_filter nStr (elemsD r)
          rw [wsum_append] at h1
          exact Nat.lt_of_le_of_lt (show _ ≤ 2000 by omega) (by decide)
        refine ⟨ps ++ [(.ref t2, rr)], _, rfl, ?_, ?_, ?_, ?_, ?_, ?_⟩
        · exact same_mut (s4.trans (s5.trans (same_new ht2 _))) hw _
        · rw [upd_ne Aw, upd_ne (ne_of_none hA5 ht2)]; exact hA5
        · rw [upd_same]; simp
        · intro e he
          have he : e ∈ es1 ++ ps ∨ e = (.ref t2, rr) := by simpa [or_assoc] using he
          rcases he with he | rfl
          · exact (he5 e he).mono fun t zs z => keep_upd hw2 _ _ _ (by rw [upd_ne (ne_of_none z ht2)]; exact z)
          · refine ⟨t2, _, k + 1, rfl, keep_upd hw2 _ _ _ upd_same, h1, kr, okr, by omega, (show rr.depth + (k + 1).toNat ≤ 60 by omega)⟩
        · rw [wsum_append, tk, wDs_append]
          have : wsum [(V.ref t2, rr)] ≤ wDs [PyData.tuple [rr, .int tt]] := by simp only [wsum, List.map, wDs, wD]; omega
          omega
        · rw [tk, partsD_eq, List.all_append, ← partsD_eq, hp4, List.all_append]
          have : partD (.tuple [rr, .int tt]) = rowD rr := by rw [partD_eq, if_pos c3]; rfl
          simp [this]
  · rintro σ' H4 ⟨ps, c, rfl, s4, hA4, hl4, he4, hw4, hp4⟩
    have fullF : ((elemsD r).filter nStr).take ag.length = (elemsD r).filter nStr := List.take_of_length_le (by rw [hag.length]; exact Nat.le_refl _)
    rw [fullF] at hw4 hp4
    have wf := wDs_filter nStr (elemsD r)
    -- the turn's end: right so far
    have fin : ∀ H', Same H H' → H' w0 = some (.lst ((es1 ++ ps).map (·.1))) → (∀ e ∈ es1 ++ ps, Ent H H' e.1 e.2) → partsD (elemsD r) = (ps.all fun e => rowD e.2) → ∃ m', m' < wsum (es1 ++ [(V.ref t, r)]) ∧
        ∃ (es : List (V × PyData)) (a' b' c' e' : Option V), m' = wsum es ∧ [some x, some (.ref w0), some (.ref ar), some (.int k), some (.ref A), c] = [some x, some (V.ref w0), a', b', c', e'] ∧ Same H H' ∧ H' w0 = some (.lst (es.map (·.1))) ∧
      (∀ e ∈ es, Ent H H' e.1 e.2) ∧ rowD d = (es.all fun e => rowD e.2) ∧ wsum es ≤ wD d := by
      intro H' s5 hl5 he5 e5
      refine ⟨wsum (es1 ++ ps), ?_, es1 ++ ps, _, _, _, _, rfl, rfl, s5, hl5, he5, ?_, ?_⟩
      · rw [wsum_append, wsum_append]
        omega
      · rw [hrow, List.all_append, List.all_append, ← e5]
        simp [rowD_elems ky]
      · rw [wsum_append] at hwe ⊢
        omega
    refine ⟨_, rfl, _, _, rfl, .inl (SqL.of hA4), _, rfl, _, _, rfl, (hx.mono s4).lt, _, _, rfl, rfl, _, rfl, ?_⟩
    refine ite2 (fun c5 => ?_) (fun c5 => ?_)
    · -- texts, too
      refine ⟨_, rfl, dc_seqD (K := K) (xs := xs) (hx.mono s4) (fun D i H' => Same H4 H' ∧ ∃ zs, H' D = some (.dK (setK zs)) ∧ zs.length ≤ i ∧ ∀ z, z ∈ zs ↔ PyData.str z ∈ (elemsD r).take i) (fun D hD => ⟨same_new hD _, [], upd_same, Nat.le_refl _, by simp⟩) ?_ ?_ ?_⟩
      · rintro D i H' hD _ ⟨s5, _⟩
        rcases hx.mono s4 with h | h
        · exact (s5 _ _ h).trans h.symm
        · exact (s5 _ _ h).trans h.symm
      · rintro D i xv H' hD e ⟨s5, zs, hD', hl', hm'⟩
        obtain ⟨dv, hdv, hdd⟩ := hxs.get e
        have tk : (elemsD r).take (i + 1) = (elemsD r).take i ++ [dv] := take_more hdv
        have ilt : i < xs.length := (List.getElem?_eq_some_iff.mp e).1
        refine ⟨rfl, _, rfl, _, _, _, _, _, rfl, .ty _, ty_of (hdd.mono (s4.trans s5)), kI_str, _, rfl, ?_⟩
        refine ite2 (fun c6 => ?_) (fun c6 => ?_)
        · cases hdd with
          | str z =>
            refine ⟨_, rfl, setK zs, Sum.inr z, rfl, hD', ?_, same_mut s5 hD _, _, upd_same.trans (by rw [setK_put]), ?_, fun y => ?_⟩
            · have : (setK zs).length = zs.length := by simp [setK]
              rw [this]
              exact Nat.lt_of_le_of_lt (show _ ≤ 2000 by omega) (by decide)
            · split
              · omega
              · simp; omega
            · rw [tk]
              by_cases hz : z ∈ zs
              · rw [if_pos hz, hm', List.mem_append]
                constructor
                · exact .inl
                · rintro (h | h)
                  · exact h
                  · simp at h
                    subst h
                    exact (hm' _).mp hz
              · rw [if_neg hz, List.mem_append, List.mem_append, hm']
                simp
          | _ => cases c6
        · refine ⟨s5, zs, hD', by omega, fun y => ?_⟩
          rw [hm', tk, List.mem_append]
          constructor
          · exact .inl
          · rintro (h | h)
            · exact h
            · simp at h
              subst h
              exact absurd rfl c6
      · rintro D H5 hD ⟨s5, zs, hD', hl', hm'⟩
        rw [full] at hm'
        refine ⟨D, zs, rfl, hD', by omega, fun z hz => ?_, fun H6 s6 => ⟨_, rfl, ?_⟩⟩
        · have mem := (hm' z).mp hz
          obtain ⟨j, hj⟩ := List.getElem?_of_mem mem
          have := oksD_get hps hj
          simp only [okD, Bool.and_eq_true, decide_eq_true_eq] at this
          exact this.1
        have ps2 := parts_strs hm'
        have s46 := s5.trans s6
        refine ite2 (fun c7 => ?_) (fun c7 => ?_)
        · have q := q H6 (s4.trans s46)
          have z : rowD d = false := by
            rw [hrow, List.all_append]
            have : zs.all isThingS = false := by simpa using c7
            simp [rowD_elems ky, ps2, this]
          rw [z] at q
          exact q
        · have : zs.all isThingS = true := by simpa using c7
          rw [this, Bool.and_true, hp4] at ps2
          exact fin H6 (s4.trans s46) (s46 _ _ hl4) (fun e he => (he4 e he).mono fun t zs z => s46 _ _ z) ps2
    · -- agains alone
      refine iteF (fin H4 s4 hl4 he4 ?_)
      rw [← hp4]
      congr 1
      have c5 : ¬ ag.length < xs.length := by simpa using c5
      rw [hag.length, hxs.length] at c5
      exact (List.length_filter_eq_length_iff.mp (Nat.le_antisymm (List.length_filter_le _ _) (by omega)) |> List.filter_eq_self.mpr).symm
end
end V48H

set_option Elab.async false
set_option linter.all false
set_option maxRecDepth 100000
set_option maxHeartbeats 4000000
set_option exponentiation.threshold 20000
namespace V48
open PySem PySem.Spec L2 MC VD
open PyProof.Rows hiding St
theorem ok_is_whole {P : Program} {w : World} {K : PySem.W.Frag} {mg : Str → Option Value} {base : Heap} {f_is_whole : Addr} {fd_is_whole : FuncData} (T : Txt K mg) (O_is_whole : Own K mg "is_whole" s_is_whole f_is_whole fd_is_whole ["value"])
     :
    FnA Clean P w K mg base CX0 1 f_is_whole fd_is_whole ["value"] (SpD K den_is_whole [] [] 1) := by
  refine fn_den (nl := 1) (np := 1) (Rn := []) O_is_whole.F sc_is_whole (by decide) rfl rfl (fun _ _ _ _ => rfl) (fun X H vs S h0 e1 e2 e3 e4 e5 e6 e7 e8 e9 hc hr hp => ?_)
  obtain ⟨prog, w', K', mg', base', A, N', s0, H0, env, outer, stack, ex, fn, calm, pn, xe⟩ := X
  obtain ⟨scope, locals, globals, cells, qual, func, code, frame, builtins⟩ := env
  cases e1; cases e2; cases e3; cases e4; cases e5; cases e6; cases e7; cases e8; cases e9
  exact ((vb_one (vs_ret (ve_and (ve_isi "int" (by decide) (by rfl) T.n_isinstance (by rfl) T.n_int (by decide +kernel) (ve_name 0)) (ve_one (ve_not (ve_isi "bool" (by decide) (by rfl) T.n_isinstance (by rfl) T.n_bool (by decide +kernel) (ve_name 0))))))))
theorem ok_are_small {P : Program} {w : World} {K : PySem.W.Frag} {mg : Str → Option Value} {base : Heap} {f_are_small : Addr} {fd_are_small : FuncData} (T : Txt K mg) (O_are_small : Own K mg "are_small" s_are_small f_are_small fd_are_small ["signs"])
     :
    FnA Clean P w K mg base CX0 1 f_are_small fd_are_small ["signs"] (SpD K den_are_small [] [] 1) := by
  refine fn_den (nl := 1) (np := 1) (Rn := []) O_are_small.F sc_are_small (by decide) rfl rfl (fun _ _ _ _ => rfl) (fun X H vs S h0 e1 e2 e3 e4 e5 e6 e7 e8 e9 hc hr hp => ?_)
  obtain ⟨prog, w', K', mg', base', A, N', s0, H0, env, outer, stack, ex, fn, calm, pn, xe⟩ := X
  obtain ⟨scope, locals, globals, cells, qual, func, code, frame, builtins⟩ := env
  cases e1; cases e2; cases e3; cases e4; cases e5; cases e6; cases e7; cases e8; cases e9
  exact ((vb_one (vs_ret (ve_or (ve_cmp op_eq ps_eqS (ve_name 0) ve_str) (ve_one (ve_and (ve_m0 PySem.F.slot_str_isascii PySem.F.type_str_isascii mt_isascii pm_ascii (ve_name 0)) (ve_and (ve_m0 PySem.F.slot_str_isalpha PySem.F.type_str_isalpha mt_isalpha pm_alpha (ve_name 0)) (ve_one (ve_cmp op_eq ps_eqS (ve_name 0) (ve_m0 PySem.F.slot_str_lower PySem.F.type_str_lower mt_lower pm_lower (ve_name 0)))))))))))
theorem ok_is_thing {P : Program} {w : World} {K : PySem.W.Frag} {mg : Str → Option Value} {base : Heap} {f_are_small : Addr} {fd_are_small : FuncData} {f_is_thing : Addr} {fd_is_thing : FuncData} (T : Txt K mg) (O_are_small : Own K mg "are_small" s_are_small f_are_small fd_are_small ["signs"]) (O_is_thing : Own K mg "is_thing" s_is_thing f_is_thing fd_is_thing ["thing"])
    (G_are_small : FnA Clean P w K mg base CX0 1 f_are_small fd_are_small ["signs"] (SpD K den_are_small [] [] 1)) :
    FnA Clean P w K mg base CX0 2 f_is_thing fd_is_thing ["thing"] (SpD K den_is_thing [] [] 1) := by
  refine fn_den (nl := 1) (np := 1) (Rn := []) O_is_thing.F sc_is_thing (by decide) rfl rfl (fun _ _ _ _ => rfl) (fun X H vs S h0 e1 e2 e3 e4 e5 e6 e7 e8 e9 hc hr hp => ?_)
  obtain ⟨prog, w', K', mg', base', A, N', s0, H0, env, outer, stack, ex, fn, calm, pn, xe⟩ := X
  obtain ⟨scope, locals, globals, cells, qual, func, code, frame, builtins⟩ := env
  cases e1; cases e2; cases e3; cases e4; cases e5; cases e6; cases e7; cases e8; cases e9
  exact ((vb_one (vs_ret (ve_and (ve_isi "str" (by decide) (by rfl) T.n_isinstance (by rfl) T.n_str (by decide +kernel) (ve_name 0)) (ve_and (ve_chain op_le ps_le op_le ps_le ve_int (ve_callB_s call_lenX ps_len (by rfl) T.n_len (by decide +kernel) (va_cons (ve_name 0) va_nil)) (ve_gint rfl T.c_LONGEST_THING)) (ve_one (ve_call [] [] hc G_are_small (hr.mono (by decide)) (by rfl) O_are_small.m O_are_small.F.kp O_are_small.b (vo_cons (ve_flat (ve_name 0)) vo_nil))))))))
theorem ok_is_row {P : Program} {w : World} {K : PySem.W.Frag} {mg : Str → Option Value} {base : Heap} {f_is_whole : Addr} {fd_is_whole : FuncData} {f_are_small : Addr} {fd_are_small : FuncData} {f_are_things : Addr} {fd_are_things : FuncData} {f_looks_again : Addr} {fd_looks_again : FuncData} {f_is_row : Addr} {fd_is_row : FuncData} (T : Txt K mg) (O_is_whole : Own K mg "is_whole" s_is_whole f_is_whole fd_is_whole ["value"]) (O_are_small : Own K mg "are_small" s_are_small f_are_small fd_are_small ["signs"]) (O_are_things : Own K mg "are_things" s_are_things f_are_things fd_are_things ["values"]) (O_looks_again : Own K mg "_looks_again" s_looks_again f_looks_again fd_looks_again ["part"]) (O_is_row : Own K mg "is_row" s_is_row f_is_row fd_is_row ["thing"])
     :
    FnA Clean P w K mg base CX0 3 f_is_row fd_is_row ["thing"] (SpD K den_is_row [] [] 1) := by
  exact look_den (V48H.ok_is_row T (V48H.ok_are_things T (V48H.ok_are_small T O_are_small) O_are_small O_are_things) (V48H.ok_looks_again T (V48H.ok_is_whole T O_is_whole) O_is_whole O_looks_again) O_are_things O_looks_again O_is_row) rfl
theorem ok_check_row {P : Program} {w : World} {K : PySem.W.Frag} {mg : Str → Option Value} {base : Heap} {f_is_row : Addr} {fd_is_row : FuncData} {f_check_row : Addr} {fd_check_row : FuncData} (T : Txt K mg) (O_is_row : Own K mg "is_row" s_is_row f_is_row fd_is_row ["thing"]) (O_check_row : Own K mg "check_row" s_check_row f_check_row fd_check_row ["row"])
    (G_is_row : FnA Clean P w K mg base CX0 3 f_is_row fd_is_row ["thing"] (SpD K den_is_row [] [] 1)) :
    FnA Clean P w K mg base CX0 4 f_check_row fd_check_row ["row"] (SpD K den_check_row [] [] 1) := by
  refine fn_den (nl := 1) (np := 1) (Rn := [(0, 1)]) O_check_row.F sc_check_row (by decide) rfl rfl (fun _ _ _ _ => rfl) (fun X H vs S h0 e1 e2 e3 e4 e5 e6 e7 e8 e9 hc hr hp => ?_)
  obtain ⟨prog, w', K', mg', base', A, N', s0, H0, env, outer, stack, ex, fn, calm, pn, xe⟩ := X
  obtain ⟨scope, locals, globals, cells, qual, func, code, frame, builtins⟩ := env
  cases e1; cases e2; cases e3; cases e4; cases e5; cases e6; cases e7; cases e8; cases e9
  exact ((vb_one (vs_weak (Rm := [(0, 1)]) (vs_if (R1 := [(0, 1)]) (R2 := [(0, 1)]) (vt_not (vt_val (ve_call [] [] hc G_is_row (hr.mono (by decide)) (by rfl) O_is_row.m O_is_row.F.kp O_is_row.b (vo_cons (ve_name 0) vo_nil))))
    vb_never
    (vb_weak (Rm := [(0, 1)]) vb_nil)))))
theorem ok_count_asks {P : Program} {w : World} {K : PySem.W.Frag} {mg : Str → Option Value} {base : Heap} {f_count_asks : Addr} {fd_count_asks : FuncData} (T : Txt K mg) (O_count_asks : Own K mg "count_asks" s_count_asks f_count_asks fd_count_asks ["row"])
     :
    FnA Clean P w K mg base CX0 12 f_count_asks fd_count_asks ["row"] (SpD K den_count_asks [] [] 1) := by
  have key : ∀ n, FnA Clean P w K mg base CX0 (0 + n) f_count_asks fd_count_asks ["row"] (SpD K (denN_count_asks n) [] [] 1) := by
    intro n
    induction n with
    | zero => exact fn_none
    | succ n G_count_asks =>
      refine fn_den (k := 0 + n) (nl := 5) (np := 1) (Rn := []) O_count_asks.F sc_count_asks (by decide) rfl rfl (fun _ _ _ _ => rfl) (fun X H vs S h0 e1 e2 e3 e4 e5 e6 e7 e8 e9 hc hr hp => ?_)
      obtain ⟨prog, w', K', mg', base', A, N', s0, H0, env, outer, stack, ex, fn, calm, pn, xe⟩ := X
      obtain ⟨scope, locals, globals, cells, qual, func, code, frame, builtins⟩ := env
      cases e1; cases e2; cases e3; cases e4; cases e5; cases e6; cases e7; cases e8; cases e9
      exact ((vb_cons (vs_weak (Rm := [(0, 1), (0, 5), (1, 5)]) (vs_setLc (fl := false) (own := [("part", 2)]) 1 6 [(0, 2), (0, 5), (0, 6), (2, 5), (2, 6), (5, 6)] rfl sc_count_asks.nd (vi_seq (ve_name 0)) (blkOk_by (own := [("part", 2)]) (N := ["row", "agains", "part", "inner", "times"]) (sc := defScope s_count_asks) (by decide +kernel)) (fun _ => (vg_name 2 sc_count_asks.nd)) (fun _ => (vts_one (vt_not (vt_val (ve_isi "str" (by decide) (by rfl) T.n_isinstance (by rfl) T.n_str (by decide +kernel) (ve_name 2)))))) (fun _ => (ve_name 2)) (sw_true rfl rfl rfl (by decide +kernel))))
        (vb_one (vs_ret (ve_op_s op_add ps_add (ve_op_s op_sub ps_sub (ve_callB_s call_lenX ps_len (by rfl) T.n_len (by decide +kernel) (va_cons (ve_name 0) va_nil)) (ve_callB_s call_lenX ps_len (by rfl) T.n_len (by decide +kernel) (va_cons (ve_name 1) va_nil))) (ve_callB_s (cr_sum rfl) ps_sum (by rfl) T.n_sum (by decide +kernel) (va_cons (ve_lc (fl := false) (own := [("inner", 3), ("times", 4)]) 6 [(0, 1), (0, 3), (0, 4), (0, 5), (0, 6), (1, 3), (1, 4), (1, 5), (1, 6), (3, 4), (3, 5), (3, 6), (4, 5), (4, 6), (5, 6)] rfl sc_count_asks.nd (vi_seq (ve_name 1)) (blkOk_by (own := [("inner", 3), ("times", 4)]) (N := ["row", "agains", "part", "inner", "times"]) (sc := defScope s_count_asks) (by decide +kernel)) (fun _ => (vg_tup rfl (vgs_cons (vg_name 3 sc_count_asks.nd) (vgs_cons (vg_name 4 sc_count_asks.nd) vgs_nil)))) (fun _ => vts_nil) (fun _ => (ve_op_s op_mulW ps_mul (ve_call [] [] hc G_count_asks (hr.mono (by omega)) (by rfl) O_count_asks.m O_count_asks.F.kp O_count_asks.b (vo_cons (ve_name 3) vo_nil)) (ve_name 4)))) va_nil)))))))
  exact key 12
theorem ok_check_near {P : Program} {w : World} {K : PySem.W.Frag} {mg : Str → Option Value} {base : Heap} {f_count_asks : Addr} {fd_count_asks : FuncData} {f_check_near : Addr} {fd_check_near : FuncData} (T : Txt K mg) (O_count_asks : Own K mg "count_asks" s_count_asks f_count_asks fd_count_asks ["row"]) (O_check_near : Own K mg "check_near" s_check_near f_check_near fd_check_near ["row"])
    (G_count_asks : FnA Clean P w K mg base CX0 12 f_count_asks fd_count_asks ["row"] (SpD K den_count_asks [] [] 1)) :
    FnA Clean P w K mg base CX0 13 f_check_near fd_check_near ["row"] (SpD K den_check_near [] [] 1) := by
  refine fn_den (nl := 2) (np := 1) (Rn := [(0, 2)]) O_check_near.F sc_check_near (by decide) rfl rfl (fun _ _ _ _ => rfl) (fun X H vs S h0 e1 e2 e3 e4 e5 e6 e7 e8 e9 hc hr hp => ?_)
  obtain ⟨prog, w', K', mg', base', A, N', s0, H0, env, outer, stack, ex, fn, calm, pn, xe⟩ := X
  obtain ⟨scope, locals, globals, cells, qual, func, code, frame, builtins⟩ := env
  cases e1; cases e2; cases e3; cases e4; cases e5; cases e6; cases e7; cases e8; cases e9
  exact ((vb_cons (vs_weak (Rm := [(0, 2)]) (vs_set 1 sc_check_near.nd (ve_call [] [] hc G_count_asks (hr.mono (by decide)) (by rfl) O_count_asks.m O_count_asks.F.kp O_count_asks.b (vo_cons (ve_name 0) vo_nil))))
    (vb_one (vs_weak (Rm := [(0, 2)]) (vs_if (R1 := [(0, 2)]) (R2 := [(0, 2)]) (vt_cmp op_gt ps_gt (ve_name 1) (ve_gint rfl T.c_MOST_NEAR))
    vb_never
    (vb_weak (Rm := [(0, 2)]) vb_nil))))))
theorem ok_laid_out {P : Program} {w : World} {K : PySem.W.Frag} {mg : Str → Option Value} {base : Heap} {f_laid_out : Addr} {fd_laid_out : FuncData} (T : Txt K mg) (O_laid_out : Own K mg "laid_out" s_laid_out f_laid_out fd_laid_out ["row"])
     :
    FnA Clean P w K mg base CX0 12 f_laid_out fd_laid_out ["row"] (SpD K den_laid_out [] [] 1) := by
  have key : ∀ n, FnA Clean P w K mg base CX0 (0 + n) f_laid_out fd_laid_out ["row"] (SpD K (denN_laid_out n) [] [] 1) := by
    intro n
    induction n with
    | zero => exact fn_none
    | succ n G_laid_out =>
      refine fn_den (k := 0 + n) (nl := 5) (np := 1) (Rn := []) O_laid_out.F sc_laid_out (by decide) rfl rfl (fun _ _ _ _ => rfl) (fun X H vs S h0 e1 e2 e3 e4 e5 e6 e7 e8 e9 hc hr hp => ?_)
      obtain ⟨prog, w', K', mg', base', A, N', s0, H0, env, outer, stack, ex, fn, calm, pn, xe⟩ := X
      obtain ⟨scope, locals, globals, cells, qual, func, code, frame, builtins⟩ := env
      cases e1; cases e2; cases e3; cases e4; cases e5; cases e6; cases e7; cases e8; cases e9
      exact ((vb_cons (vs_weak (Rm := [(0, 5)]) (vs_set 1 sc_laid_out.nd (ve_lst va_nil)))
        (vb_cons (vs_weak (Rm := [(0, 2), (0, 3), (0, 4), (0, 5), (2, 3), (2, 4), (2, 5), (3, 4), (3, 5), (4, 5)]) (vs_for (fl := false) 6 [(0, 2), (0, 3), (0, 4), (0, 5), (0, 6), (2, 3), (2, 4), (2, 5), (2, 6), (3, 4), (3, 5), (3, 6), (4, 5), (4, 6), (5, 6)] hp rfl (vi_seq (ve_name 0)) (vg_name 2 sc_laid_out.nd)
        (vb_one (vs_weak (Rm := [(0, 2), (0, 3), (0, 4), (0, 5), (0, 6), (2, 3), (2, 4), (2, 5), (2, 6), (3, 4), (3, 5), (3, 6), (4, 5), (4, 6), (5, 6)]) (vs_if (R1 := [(0, 2), (0, 3), (0, 4), (0, 5), (0, 6), (2, 3), (2, 4), (2, 5), (2, 6), (3, 4), (3, 5), (3, 6), (4, 5), (4, 6), (5, 6)]) (R2 := [(0, 2), (0, 3), (0, 4), (0, 5), (0, 6), (2, 3), (2, 4), (2, 5), (2, 6), (3, 4), (3, 5), (3, 6), (4, 5), (4, 6), (5, 6)]) (vt_val (ve_isi "str" (by decide) (by rfl) T.n_isinstance (by rfl) T.n_str (by decide +kernel) (ve_name 2)))
        (vb_weak (Rm := [(0, 2), (0, 3), (0, 4), (0, 5), (0, 6), (2, 3), (2, 4), (2, 5), (2, 6), (3, 4), (3, 5), (3, 6), (4, 5), (4, 6), (5, 6)]) (vb_one (vs_expr (ve_mutL 1 [] PySem.F.slot_list_append PySem.F.type_list_append mt_append pm_append (va_cons (ve_flat (ve_name 2)) va_nil)))))
        (vb_weak (Rm := [(0, 2), (0, 3), (0, 4), (0, 5), (0, 6), (2, 3), (2, 4), (2, 5), (2, 6), (3, 4), (3, 5), (3, 6), (4, 5), (4, 6), (5, 6)]) (vb_cons (vs_weak (Rm := [(0, 2), (0, 3), (0, 4), (0, 5), (0, 6), (2, 3), (2, 4), (2, 5), (2, 6), (3, 4), (3, 5), (3, 6), (4, 5), (4, 6), (5, 6)]) (vs_asg (ve_name 2) (vg_tup rfl (vgs_cons (vg_name 3 sc_laid_out.nd) (vgs_cons (vg_name 4 sc_laid_out.nd) vgs_nil)))))
        (vb_one (vs_expr (ve_mutL 1 [] PySem.F.slot_list_extend PySem.F.type_list_extend mt_extend pm_extend (va_cons (ve_op_n op_rep pn_rep (ve_call [] [] hc G_laid_out (hr.mono (by omega)) (by rfl) O_laid_out.m O_laid_out.F.kp O_laid_out.b (vo_cons (ve_name 3) vo_nil)) (ve_name 4)) va_nil)))))))))))
        (vb_one (vs_ret (ve_name 1))))))
  exact key 12
end V48

set_option Elab.async false
set_option linter.all false
set_option maxRecDepth 100000
set_option maxHeartbeats 4000000
set_option exponentiation.threshold 20000
namespace V48
open PySem PySem.Spec L2 MC VD
open PyProof.Rows hiding St
theorem ok_near {P : Program} {w : World} {K : PySem.W.Frag} {mg : Str → Option Value} {base : Heap} {f_check_row : Addr} {fd_check_row : FuncData} {f_check_near : Addr} {fd_check_near : FuncData} {f_laid_out : Addr} {fd_laid_out : FuncData} {f_near : Addr} {fd_near : FuncData} (T : Txt K mg) (O_check_row : Own K mg "check_row" s_check_row f_check_row fd_check_row ["row"]) (O_check_near : Own K mg "check_near" s_check_near f_check_near fd_check_near ["row"]) (O_laid_out : Own K mg "laid_out" s_laid_out f_laid_out fd_laid_out ["row"]) (O_near : Own K mg "near" s_near f_near fd_near ["row"])
    (G_check_row : FnA Clean P w K mg base CX0 4 f_check_row fd_check_row ["row"] (SpD K den_check_row [] [] 1)) (G_check_near : FnA Clean P w K mg base CX0 13 f_check_near fd_check_near ["row"] (SpD K den_check_near [] [] 1)) (G_laid_out : FnA Clean P w K mg base CX0 12 f_laid_out fd_laid_out ["row"] (SpD K den_laid_out [] [] 1)) :
    FnA Clean P w K mg base CX0 14 f_near fd_near ["row"] (SpD K den_near [] [] 1) := by
  refine fn_den (nl := 1) (np := 1) (Rn := []) O_near.F sc_near (by decide) rfl rfl (fun _ _ _ _ => rfl) (fun X H vs S h0 e1 e2 e3 e4 e5 e6 e7 e8 e9 hc hr hp => ?_)
  obtain ⟨prog, w', K', mg', base', A, N', s0, H0, env, outer, stack, ex, fn, calm, pn, xe⟩ := X
  obtain ⟨scope, locals, globals, cells, qual, func, code, frame, builtins⟩ := env
  cases e1; cases e2; cases e3; cases e4; cases e5; cases e6; cases e7; cases e8; cases e9
  exact ((vb_cons (vs_expr (ve_call [] [] hc G_check_row (hr.mono (by decide)) (by rfl) O_check_row.m O_check_row.F.kp O_check_row.b (vo_cons (ve_name 0) vo_nil)))
    (vb_cons (vs_expr (ve_call [] [] hc G_check_near (hr.mono (by decide)) (by rfl) O_check_near.m O_check_near.F.kp O_check_near.b (vo_cons (ve_name 0) vo_nil)))
    (vb_one (vs_ret (ve_call [] [] hc G_laid_out (hr.mono (by decide)) (by rfl) O_laid_out.m O_laid_out.F.kp O_laid_out.b (vo_cons (ve_name 0) vo_nil)))))))
theorem ok_check_thing {P : Program} {w : World} {K : PySem.W.Frag} {mg : Str → Option Value} {base : Heap} {f_is_thing : Addr} {fd_is_thing : FuncData} {f_check_thing : Addr} {fd_check_thing : FuncData} (T : Txt K mg) (O_is_thing : Own K mg "is_thing" s_is_thing f_is_thing fd_is_thing ["thing"]) (O_check_thing : Own K mg "check_thing" s_check_thing f_check_thing fd_check_thing ["thing"])
    (G_is_thing : FnA Clean P w K mg base CX0 2 f_is_thing fd_is_thing ["thing"] (SpD K den_is_thing [] [] 1)) :
    FnA Clean P w K mg base CX0 3 f_check_thing fd_check_thing ["thing"] (SpD K den_check_thing [] [] 1) := by
  refine fn_den (nl := 1) (np := 1) (Rn := [(0, 1)]) O_check_thing.F sc_check_thing (by decide) rfl rfl (fun _ _ _ _ => rfl) (fun X H vs S h0 e1 e2 e3 e4 e5 e6 e7 e8 e9 hc hr hp => ?_)
  obtain ⟨prog, w', K', mg', base', A, N', s0, H0, env, outer, stack, ex, fn, calm, pn, xe⟩ := X
  obtain ⟨scope, locals, globals, cells, qual, func, code, frame, builtins⟩ := env
  cases e1; cases e2; cases e3; cases e4; cases e5; cases e6; cases e7; cases e8; cases e9
  exact ((vb_one (vs_weak (Rm := [(0, 1)]) (vs_if (R1 := [(0, 1)]) (R2 := [(0, 1)]) (vt_not (vt_val (ve_call [] [] hc G_is_thing (hr.mono (by decide)) (by rfl) O_is_thing.m O_is_thing.F.kp O_is_thing.b (vo_cons (ve_flat (ve_name 0)) vo_nil))))
    vb_never
    (vb_weak (Rm := [(0, 1)]) vb_nil)))))
theorem ok_check_place {P : Program} {w : World} {K : PySem.W.Frag} {mg : Str → Option Value} {base : Heap} {f_is_whole : Addr} {fd_is_whole : FuncData} {f_check_place : Addr} {fd_check_place : FuncData} (T : Txt K mg) (O_is_whole : Own K mg "is_whole" s_is_whole f_is_whole fd_is_whole ["value"]) (O_check_place : Own K mg "check_place" s_check_place f_check_place fd_check_place ["place", "many"])
    (G_is_whole : FnA Clean P w K mg base CX0 1 f_is_whole fd_is_whole ["value"] (SpD K den_is_whole [] [] 1)) :
    FnA Clean P w K mg base CX0 2 f_check_place fd_check_place ["place", "many"] (SpD K den_check_place [] [] 2) := by
  refine fn_den (nl := 2) (np := 2) (Rn := [(0, 1), (0, 2), (0, 3), (1, 2), (1, 3), (2, 3)]) O_check_place.F sc_check_place (by decide) rfl rfl (fun _ _ _ _ => rfl) (fun X H vs S h0 e1 e2 e3 e4 e5 e6 e7 e8 e9 hc hr hp => ?_)
  obtain ⟨prog, w', K', mg', base', A, N', s0, H0, env, outer, stack, ex, fn, calm, pn, xe⟩ := X
  obtain ⟨scope, locals, globals, cells, qual, func, code, frame, builtins⟩ := env
  cases e1; cases e2; cases e3; cases e4; cases e5; cases e6; cases e7; cases e8; cases e9
  exact ((vb_one (vs_weak (Rm := [(0, 1), (0, 2), (0, 3), (1, 2), (1, 3), (2, 3)]) (vs_if (R1 := [(0, 1), (0, 2), (0, 3), (1, 2), (1, 3), (2, 3)]) (R2 := [(0, 1), (0, 2), (0, 3), (1, 2), (1, 3), (2, 3)]) (vt_w (vw_or (vt_not (vt_val (ve_call [] [] hc G_is_whole (hr.mono (by decide)) (by rfl) O_is_whole.m O_is_whole.F.kp O_is_whole.b (vo_cons (ve_flat (ve_name 0)) vo_nil)))) (vw_or1 (vt_not (vt_chain op_le ps_le op_lt ps_lt ve_int (ve_name 0) (ve_name 1))))))
    vb_never
    (vb_weak (Rm := [(0, 1), (0, 2), (0, 3), (1, 2), (1, 3), (2, 3)]) vb_nil)))))
theorem ok_lowest_of {P : Program} {w : World} {K : PySem.W.Frag} {mg : Str → Option Value} {base : Heap} {f_are_small : Addr} {fd_are_small : FuncData} {f_lowest_of : Addr} {fd_lowest_of : FuncData} (T : Txt K mg) (O_are_small : Own K mg "are_small" s_are_small f_are_small fd_are_small ["signs"]) (O_lowest_of : Own K mg "_lowest_of" s_lowest_of f_lowest_of fd_lowest_of ["graces"])
    (G_are_small : FnA Clean P w K mg base CX0 1 f_are_small fd_are_small ["signs"] (SpD K den_are_small [] [] 1)) :
    FnA Clean P w K mg base CX0 2 f_lowest_of fd_lowest_of ["graces"] (SpD K den_lowest_of [] [] 1) := by
  refine fn_den (nl := 4) (np := 1) (Rn := []) O_lowest_of.F sc_lowest_of (by decide) rfl rfl (fun _ _ _ _ => rfl) (fun X H vs S h0 e1 e2 e3 e4 e5 e6 e7 e8 e9 hc hr hp => ?_)
  obtain ⟨prog, w', K', mg', base', A, N', s0, H0, env, outer, stack, ex, fn, calm, pn, xe⟩ := X
  obtain ⟨scope, locals, globals, cells, qual, func, code, frame, builtins⟩ := env
  cases e1; cases e2; cases e3; cases e4; cases e5; cases e6; cases e7; cases e8; cases e9
  exact ((vb_cons (vs_weak (Rm := [(0, 4)]) (vs_if (R1 := [(0, 4)]) (R2 := [(0, 4)]) (vt_not (vt_val (ve_isi "dict" (by decide) (by rfl) T.n_isinstance (by rfl) T.n_dict (by decide +kernel) (ve_name 0))))
    vb_never
    (vb_weak (Rm := [(0, 4)]) vb_nil)))
    (vb_cons (vs_weak (Rm := [(0, 4)]) (vs_set 1 sc_lowest_of.nd ve_int))
    (vb_cons (vs_weak (Rm := [(0, 4)]) (vs_forK (fl := true) 0 5 [(0, 4), (0, 5), (4, 5)] kd_items hp rfl (pi_items (pv 0)) (vg_tup rfl (vgs_cons (vg_name 2 sc_lowest_of.nd) (vgs_cons (vg_name 3 sc_lowest_of.nd) vgs_nil)))
    (vb_cons (vs_weak (Rm := [(0, 4), (0, 5), (4, 5)]) (vs_if (R1 := [(0, 4), (0, 5), (4, 5)]) (R2 := [(0, 4), (0, 5), (4, 5)]) (vt_w (vw_or (vt_not (vt_val (ve_isi "str" (by decide) (by rfl) T.n_isinstance (by rfl) T.n_str (by decide +kernel) (ve_name 2)))) (vw_or1 (vt_cmp op_gt ps_gt (ve_callB_s call_lenX ps_len (by rfl) T.n_len (by decide +kernel) (va_cons (ve_name 2) va_nil)) (ve_gint rfl T.c_LONGEST_THING)))))
    vb_never
    (vb_weak (Rm := [(0, 4), (0, 5), (4, 5)]) vb_nil)))
    (vb_cons (vs_weak (Rm := [(0, 4), (0, 5), (4, 5)]) (vs_if (R1 := [(0, 4), (0, 5), (4, 5)]) (R2 := [(0, 4), (0, 5), (4, 5)]) (vt_w (vw_or (vt_not (vt_val (ve_isi "int" (by decide) (by rfl) T.n_isinstance (by rfl) T.n_int (by decide +kernel) (ve_name 3)))) (vw_or (vt_cmp op_isX ps_isX (ve_name 3) ve_bl) (vw_or1 (vt_cmp op_isX ps_isX (ve_name 3) ve_bl)))))
    vb_never
    (vb_weak (Rm := [(0, 4), (0, 5), (4, 5)]) vb_nil)))
    (vb_one (vs_weak (Rm := [(0, 4), (0, 5), (4, 5)]) (vs_if (R1 := [(0, 4), (0, 5), (4, 5)]) (R2 := [(0, 4), (0, 5), (4, 5)]) (vt_cmp op_lt ps_lt (ve_name 3) (ve_name 1))
    (vb_weak (Rm := [(0, 4), (0, 5), (4, 5)]) (vb_one (vs_weak (Rm := [(0, 4), (0, 5), (4, 5)]) (vs_set 1 sc_lowest_of.nd (ve_flat (ve_name 3))))))
    (vb_weak (Rm := [(0, 4), (0, 5), (4, 5)]) vb_nil))))))))
    (vb_one (vs_ret (ve_flat (ve_if (vt_w (vw_and (vt_dni (hu1 hr) ve_str (ve_name 0)) (vw_and1 (vt_val (ve_call [] [] hc G_are_small (hr.mono (by decide)) (by rfl) O_are_small.m O_are_small.F.kp O_are_small.b (vo_cons (ve_m1 PySem.F.slot_str_join PySem.F.type_str_join (mt_joinX rfl) pm_join ve_str (ve_name 0)) vo_nil)))))) (ve_name 1) ve_non))))))))
theorem ok_with_lowest {P : Program} {w : World} {K : PySem.W.Frag} {mg : Str → Option Value} {base : Heap} {f_lowest_of : Addr} {fd_lowest_of : FuncData} {f_with_lowest : Addr} {fd_with_lowest : FuncData} (T : Txt K mg) (O_lowest_of : Own K mg "_lowest_of" s_lowest_of f_lowest_of fd_lowest_of ["graces"]) (O_with_lowest : Own K mg "_with_lowest" s_with_lowest f_with_lowest fd_with_lowest ["graces"])
    (G_lowest_of : FnA Clean P w K mg base CX0 2 f_lowest_of fd_lowest_of ["graces"] (SpD K den_lowest_of [] [] 1)) :
    FnA Clean P w K mg base CX0 3 f_with_lowest fd_with_lowest ["graces"] (SpD K den_with_lowest [] [0] 1) := by
  refine fn_den (nl := 2) (np := 1) (Rn := []) O_with_lowest.F sc_with_lowest (by decide) rfl rfl (fun _ _ _ _ => rfl) (fun X H vs S h0 e1 e2 e3 e4 e5 e6 e7 e8 e9 hc hr hp => ?_)
  obtain ⟨prog, w', K', mg', base', A, N', s0, H0, env, outer, stack, ex, fn, calm, pn, xe⟩ := X
  obtain ⟨scope, locals, globals, cells, qual, func, code, frame, builtins⟩ := env
  cases e1; cases e2; cases e3; cases e4; cases e5; cases e6; cases e7; cases e8; cases e9
  exact ((vb_cons (vs_weak (Rm := [(0, 2)]) (vs_if (R1 := [(0, 2)]) (R2 := [(0, 2)]) (vt_cmp op_isN ps_isN (ve_name 0) ve_non)
    (vb_one (vs_ret (ve_tup (va_cons ve_dnew (va_cons ve_int va_nil)))))
    (vb_weak (Rm := [(0, 2)]) vb_nil)))
    (vb_cons (vs_weak (Rm := [(0, 2)]) (vs_set 1 sc_with_lowest.nd (ve_call [] [] hc G_lowest_of (hr.mono (by decide)) (by rfl) O_lowest_of.m O_lowest_of.F.kp O_lowest_of.b (vo_cons (ve_name 0) vo_nil))))
    (vb_cons (vs_weak (Rm := [(0, 2)]) (vs_if (R1 := [(0, 2)]) (R2 := [(0, 2)]) (vt_cmp op_isN ps_isN (ve_name 1) ve_non)
    vb_never
    (vb_weak (Rm := [(0, 2)]) vb_nil)))
    (vb_one (vs_ret (ve_tup (va_cons (ve_name 0) (va_cons (ve_flat (ve_name 1)) va_nil)))))))))
theorem ok_checked_graces {P : Program} {w : World} {K : PySem.W.Frag} {mg : Str → Option Value} {base : Heap} {f_with_lowest : Addr} {fd_with_lowest : FuncData} {f_checked_graces : Addr} {fd_checked_graces : FuncData} (T : Txt K mg) (O_with_lowest : Own K mg "_with_lowest" s_with_lowest f_with_lowest fd_with_lowest ["graces"]) (O_checked_graces : Own K mg "checked_graces" s_checked_graces f_checked_graces fd_checked_graces ["graces"])
    (G_with_lowest : FnA Clean P w K mg base CX0 3 f_with_lowest fd_with_lowest ["graces"] (SpD K den_with_lowest [] [0] 1)) :
    FnA Clean P w K mg base CX0 4 f_checked_graces fd_checked_graces ["graces"] (SpD K den_checked_graces [] [0] 1) := by
  refine fn_den (nl := 3) (np := 1) (Rn := []) O_checked_graces.F sc_checked_graces (by decide) rfl rfl (fun _ _ _ _ => rfl) (fun X H vs S h0 e1 e2 e3 e4 e5 e6 e7 e8 e9 hc hr hp => ?_)
  obtain ⟨prog, w', K', mg', base', A, N', s0, H0, env, outer, stack, ex, fn, calm, pn, xe⟩ := X
  obtain ⟨scope, locals, globals, cells, qual, func, code, frame, builtins⟩ := env
  cases e1; cases e2; cases e3; cases e4; cases e5; cases e6; cases e7; cases e8; cases e9
  exact ((vb_cons (vs_weak (Rm := [(0, 1), (0, 2), (0, 3), (1, 2), (1, 3), (2, 3)]) (vs_asg (ve_call [] [] hc G_with_lowest (hr.mono (by decide)) (by rfl) O_with_lowest.m O_with_lowest.F.kp O_with_lowest.b (vo_cons (ve_name 0) vo_nil)) (vg_tup rfl (vgs_cons (vg_name 1 sc_checked_graces.nd) (vgs_cons (vg_name 2 sc_checked_graces.nd) vgs_nil)))))
    (vb_one (vs_ret (ve_name 1)))))
theorem ok_depth_behind {P : Program} {w : World} {K : PySem.W.Frag} {mg : Str → Option Value} {base : Heap} {f_depth_behind : Addr} {fd_depth_behind : FuncData} (T : Txt K mg) (O_depth_behind : Own K mg "depth_behind" s_depth_behind f_depth_behind fd_depth_behind ["since", "grace"])
     :
    FnA Clean P w K mg base CX0 1 f_depth_behind fd_depth_behind ["since", "grace"] (SpD K den_depth_behind [] [] 2) := by
  refine fn_den (nl := 5) (np := 2) (Rn := []) O_depth_behind.F sc_depth_behind (by decide) rfl rfl (fun _ _ _ _ => rfl) (fun X H vs S h0 e1 e2 e3 e4 e5 e6 e7 e8 e9 hc hr hp => ?_)
  obtain ⟨prog, w', K', mg', base', A, N', s0, H0, env, outer, stack, ex, fn, calm, pn, xe⟩ := X
  obtain ⟨scope, locals, globals, cells, qual, func, code, frame, builtins⟩ := env
  cases e1; cases e2; cases e3; cases e4; cases e5; cases e6; cases e7; cases e8; cases e9
  exact ((vb_cons (vs_weak (Rm := [(0, 1), (0, 5), (0, 6), (1, 5), (1, 6), (5, 6)]) (vs_set 2 sc_depth_behind.nd (ve_callB_s call_lenX ps_len (by rfl) T.n_len (by decide +kernel) (va_cons (ve_name 0) va_nil))))
    (vb_cons (vs_weak (Rm := [(0, 1), (0, 5), (0, 6), (1, 5), (1, 6), (5, 6)]) (vs_set 3 sc_depth_behind.nd ve_int))
    (vb_cons (vs_weak (Rm := [(0, 1), (0, 5), (0, 6), (1, 5), (1, 6), (5, 6)]) (vs_while [(0, 1), (0, 5), (0, 6), (1, 5), (1, 6), (5, 6)] hp (vt_cmp op_lt ps_lt (ve_name 3) (ve_name 2))
    (vb_cons (vs_weak (Rm := [(0, 1), (0, 5), (0, 6), (1, 5), (1, 6), (5, 6)]) (vs_set 4 sc_depth_behind.nd (ve_op_s op_fdivW ps_fdiv (ve_op_s op_add ps_add (ve_name 3) (ve_name 2)) ve_int)))
    (vb_one (vs_weak (Rm := [(0, 1), (0, 5), (0, 6), (1, 5), (1, 6), (5, 6)]) (vs_if (R1 := [(0, 1), (0, 5), (0, 6), (1, 5), (1, 6), (5, 6)]) (R2 := [(0, 1), (0, 5), (0, 6), (1, 5), (1, 6), (5, 6)]) (vt_cmp op_gt ps_gt (ve_ix_g ix_q pg_ix (ve_name 0) (ve_op_s op_sub ps_sub (ve_neg ve_int) (ve_name 4))) (ve_op_s op_sub ps_sub (ve_name 4) (ve_name 1)))
    (vb_weak (Rm := [(0, 1), (0, 5), (0, 6), (1, 5), (1, 6), (5, 6)]) (vb_one (vs_weak (Rm := [(0, 1), (0, 5), (0, 6), (1, 5), (1, 6), (5, 6)]) (vs_set 3 sc_depth_behind.nd (ve_op_s op_add ps_add (ve_name 4) ve_int)))))
    (vb_weak (Rm := [(0, 1), (0, 5), (0, 6), (1, 5), (1, 6), (5, 6)]) (vb_one (vs_weak (Rm := [(0, 1), (0, 5), (0, 6), (1, 5), (1, 6), (5, 6)]) (vs_set 2 sc_depth_behind.nd (ve_flat (ve_name 4))))))))))))
    (vb_one (vs_ret (ve_callB_s (call_max2 rfl) ps_max2 (by rfl) T.n_max (by decide +kernel) (va_cons ve_int (va_cons (ve_op_s op_sub ps_sub (ve_name 3) (ve_name 1)) va_nil)))))))))
theorem ok_reckoned {P : Program} {w : World} {K : PySem.W.Frag} {mg : Str → Option Value} {base : Heap} {f_depth_behind : Addr} {fd_depth_behind : FuncData} {f_reckoned : Addr} {fd_reckoned : FuncData} (T : Txt K mg) (O_depth_behind : Own K mg "depth_behind" s_depth_behind f_depth_behind fd_depth_behind ["since", "grace"]) (O_reckoned : Own K mg "reckoned" s_reckoned f_reckoned fd_reckoned ["asks", "graces"])
    (G_depth_behind : FnA Clean P w K mg base CX0 1 f_depth_behind fd_depth_behind ["since", "grace"] (SpD K den_depth_behind [] [] 2)) :
    FnA Clean P w K mg base CX0 2 f_reckoned fd_reckoned ["asks", "graces"] (SpD K den_reckoned [] [] 2) := by
  refine fn_den (nl := 9) (np := 2) (Rn := []) O_reckoned.F sc_reckoned (by decide) rfl rfl (fun _ _ _ _ => rfl) (fun X H vs S h0 e1 e2 e3 e4 e5 e6 e7 e8 e9 hc hr hp => ?_)
  obtain ⟨prog, w', K', mg', base', A, N', s0, H0, env, outer, stack, ex, fn, calm, pn, xe⟩ := X
  obtain ⟨scope, locals, globals, cells, qual, func, code, frame, builtins⟩ := env
  cases e1; cases e2; cases e3; cases e4; cases e5; cases e6; cases e7; cases e8; cases e9
  exact ((vb_cons (vs_weak (Rm := [(0, 1), (0, 9), (0, 10), (1, 9), (1, 10), (9, 10)]) (vs_set 2 sc_reckoned.nd (ve_op_s op_sub ps_sub (ve_callB_s call_lenX ps_len (by rfl) T.n_len (by decide +kernel) (va_cons (ve_name 0) va_nil)) (ve_callB_s (call_min2 rfl) ps_min2 (by rfl) T.n_min (by decide +kernel) (va_cons ve_int (va_cons (ve_minV rfl (by rfl) T.n_min (ve_name 1)) va_nil))))))
    (vb_cons (vs_weak (Rm := [(0, 1), (0, 9), (0, 10), (1, 9), (1, 10), (9, 10)]) (vs_set 3 sc_reckoned.nd (ve_lst va_nil)))
    (vb_cons (vs_weak (Rm := [(0, 1), (0, 9), (0, 10), (1, 9), (1, 10), (9, 10)]) (vs_set 4 sc_reckoned.nd ve_dnew))
    (vb_cons (vs_weak (Rm := [(0, 1), (0, 9), (0, 10), (1, 9), (1, 10), (9, 10)]) (vs_for (fl := true) 11 [(0, 1), (0, 9), (0, 10), (0, 11), (1, 9), (1, 10), (1, 11), (9, 10), (9, 11), (10, 11)] hp rfl (vi_enum (by rfl) T.n_enumerate (va_cons (ve_name 0) va_nil)) (vg_tup rfl (vgs_cons (vg_name 5 sc_reckoned.nd) (vgs_cons (vg_name 6 sc_reckoned.nd) vgs_nil)))
    (vb_cons (vs_weak (Rm := [(0, 1), (0, 9), (0, 10), (0, 11), (1, 9), (1, 10), (1, 11), (9, 10), (9, 11), (10, 11)]) (vs_if (R1 := [(0, 1), (0, 9), (0, 10), (0, 11), (1, 9), (1, 10), (1, 11), (9, 10), (9, 11), (10, 11)]) (R2 := [(0, 1), (0, 9), (0, 10), (0, 11), (1, 9), (1, 10), (1, 11), (9, 10), (9, 11), (10, 11)]) (vt_din (hu1 hr) (ve_name 6) (ve_name 4))
    (vb_weak (Rm := [(0, 1), (0, 9), (0, 10), (0, 11), (1, 9), (1, 10), (1, 11), (9, 10), (9, 11), (10, 11)]) (vb_cons (vs_weak (Rm := [(0, 1), (0, 9), (0, 10), (0, 11), (1, 9), (1, 10), (1, 11), (9, 10), (9, 11), (10, 11)]) (vs_set 7 sc_reckoned.nd (ve_callB_n cr_sortedI pn_sorted (by rfl) T.n_sorted (by decide +kernel) (va_cons (ve_sl_n sl_list pn_slL (ve_name 3) (vp_so (ve_op_s op_add ps_add (ve_dget (hu1 hr) (ve_name 4) (ve_name 6)) ve_int)) vp_no) va_nil))))
    (vb_one (vs_expr (ve_mutL 3 [] PySem.F.slot_list_append PySem.F.type_list_append mt_append pm_append (va_cons (ve_call [] [] hc G_depth_behind (hr.mono (by decide)) (by rfl) O_depth_behind.m O_depth_behind.F.kp O_depth_behind.b (vo_cons (ve_name 7) (vo_cons (ve_flat (ve_get2 (hu1 hr) (ve_name 1) (ve_name 6) ve_int)) vo_nil))) va_nil))))))
    (vb_weak (Rm := [(0, 1), (0, 9), (0, 10), (0, 11), (1, 9), (1, 10), (1, 11), (9, 10), (9, 11), (10, 11)]) (vb_one (vs_expr (ve_mutL 3 [] PySem.F.slot_list_append PySem.F.type_list_append mt_append pm_append (va_cons (ve_flat (ve_name 2)) va_nil)))))))
    (vb_one (vs_putK 4 [] (hu1 hr) (ve_flat (ve_name 5)) (ve_name 6))))))
    (vb_one (vs_ret (ve_lc (fl := true) (own := [("depth", 8)]) 11 [(0, 1), (0, 9), (0, 10), (1, 9), (1, 10), (3, 11), (9, 10)] rfl sc_reckoned.nd (vi_seq (ve_name 3)) (blkOk_by (own := [("depth", 8)]) (N := ["asks", "graces", "endless", "told", "last", "place", "thing", "since", "depth"]) (sc := defScope s_reckoned) (by decide +kernel)) (fun _ => (vg_name 8 sc_reckoned.nd)) (fun _ => vts_nil) (fun _ => (ve_flat (ve_if (vt_cmp op_eq ps_eqS (ve_name 8) (ve_name 2)) ve_non (ve_name 8))))))))))))
end V48

set_option Elab.async false
set_option linter.all false
set_option maxRecDepth 100000
set_option maxHeartbeats 4000000
set_option exponentiation.threshold 20000
namespace V48
open PySem PySem.Spec L2 MC VD
open PyProof.Rows hiding St
theorem ok_changes {P : Program} {w : World} {K : PySem.W.Frag} {mg : Str → Option Value} {base : Heap} {f_changes : Addr} {fd_changes : FuncData} (T : Txt K mg) (O_changes : Own K mg "_changes" s_changes f_changes fd_changes ["told", "other"])
     :
    FnA Clean P w K mg base CX0 1 f_changes fd_changes ["told", "other"] (SpD K den_changes [] [] 2) := by
  refine fn_den (nl := 6) (np := 2) (Rn := []) O_changes.F sc_changes (by decide) rfl rfl (fun _ _ _ _ => rfl) (fun X H vs S h0 e1 e2 e3 e4 e5 e6 e7 e8 e9 hc hr hp => ?_)
  obtain ⟨prog, w', K', mg', base', A, N', s0, H0, env, outer, stack, ex, fn, calm, pn, xe⟩ := X
  obtain ⟨scope, locals, globals, cells, qual, func, code, frame, builtins⟩ := env
  cases e1; cases e2; cases e3; cases e4; cases e5; cases e6; cases e7; cases e8; cases e9
  exact ((vb_cons (vs_weak (Rm := [(0, 1), (0, 6), (0, 7), (1, 6), (1, 7), (6, 7)]) (vs_set 2 sc_changes.nd (ve_listZip rfl (by rfl) T.n_list (by rfl) T.n_zip (va_cons (ve_name 0) (va_cons (ve_name 1) va_nil)))))
    (vb_one (vs_ret (ve_lc (fl := true) (own := [("at", 3), ("depth", 4), ("new", 5)]) 8 [(0, 1), (0, 6), (0, 7), (1, 6), (1, 7), (2, 8), (6, 7)] rfl sc_changes.nd (vi_enum (by rfl) T.n_enumerate (va_cons (ve_name 2) va_nil)) (blkOk_by (own := [("at", 3), ("depth", 4), ("new", 5)]) (N := ["told", "other", "both", "at", "depth", "new"]) (sc := defScope s_changes) (by decide +kernel)) (fun _ => (vg_tup rfl (vgs_cons (vg_name 3 sc_changes.nd) (vgs_cons (vg_tup rfl (vgs_cons (vg_name 4 sc_changes.nd) (vgs_cons (vg_name 5 sc_changes.nd) vgs_nil))) vgs_nil)))) (fun _ => (vts_one (vt_cmp (op_neD (u64 hr)) ps_neD (ve_name 4) (ve_name 5)))) (fun _ => (ve_tup (va_cons (ve_flat (ve_name 3)) (va_cons (ve_flat (ve_name 4)) (va_cons (ve_flat (ve_name 5)) va_nil))))))))))
theorem ok_put_in {P : Program} {w : World} {K : PySem.W.Frag} {mg : Str → Option Value} {base : Heap} {f_near : Addr} {fd_near : FuncData} {f_check_thing : Addr} {fd_check_thing : FuncData} {f_check_place : Addr} {fd_check_place : FuncData} {f_checked_graces : Addr} {fd_checked_graces : FuncData} {f_reckoned : Addr} {fd_reckoned : FuncData} {f_changes : Addr} {fd_changes : FuncData} {f_put_in : Addr} {fd_put_in : FuncData} (T : Txt K mg) (O_near : Own K mg "near" s_near f_near fd_near ["row"]) (O_check_thing : Own K mg "check_thing" s_check_thing f_check_thing fd_check_thing ["thing"]) (O_check_place : Own K mg "check_place" s_check_place f_check_place fd_check_place ["place", "many"]) (O_checked_graces : Own K mg "checked_graces" s_checked_graces f_checked_graces fd_checked_graces ["graces"]) (O_reckoned : Own K mg "reckoned" s_reckoned f_reckoned fd_reckoned ["asks", "graces"]) (O_changes : Own K mg "_changes" s_changes f_changes fd_changes ["told", "other"]) (O_put_in : Own_put_in K mg f_put_in fd_put_in)
    (G_near : FnA Clean P w K mg base CX0 14 f_near fd_near ["row"] (SpD K den_near [] [] 1)) (G_check_thing : FnA Clean P w K mg base CX0 3 f_check_thing fd_check_thing ["thing"] (SpD K den_check_thing [] [] 1)) (G_check_place : FnA Clean P w K mg base CX0 2 f_check_place fd_check_place ["place", "many"] (SpD K den_check_place [] [] 2)) (G_checked_graces : FnA Clean P w K mg base CX0 4 f_checked_graces fd_checked_graces ["graces"] (SpD K den_checked_graces [] [0] 1)) (G_reckoned : FnA Clean P w K mg base CX0 2 f_reckoned fd_reckoned ["asks", "graces"] (SpD K den_reckoned [] [] 2)) (G_changes : FnA Clean P w K mg base CX0 1 f_changes fd_changes ["told", "other"] (SpD K den_changes [] [] 2)) :
    FnA Clean P w K mg base CX0 15 f_put_in fd_put_in ["row", "place", "thing", "graces"] (SpD K den_put_in [] [] 4) := by
  refine fn_den (nl := 7) (np := 4) (Rn := []) O_put_in.F sc_put_in (by decide) rfl rfl (fun _ _ _ _ => rfl) (fun X H vs S h0 e1 e2 e3 e4 e5 e6 e7 e8 e9 hc hr hp => ?_)
  obtain ⟨prog, w', K', mg', base', A, N', s0, H0, env, outer, stack, ex, fn, calm, pn, xe⟩ := X
  obtain ⟨scope, locals, globals, cells, qual, func, code, frame, builtins⟩ := env
  cases e1; cases e2; cases e3; cases e4; cases e5; cases e6; cases e7; cases e8; cases e9
  exact ((vb_cons (vs_weak (Rm := [(0, 1), (0, 2), (0, 3), (0, 7), (0, 8), (0, 9), (0, 10), (1, 2), (1, 3), (1, 7), (1, 8), (1, 9), (1, 10), (2, 3), (2, 7), (2, 8), (2, 9), (2, 10), (3, 7), (3, 8), (3, 9), (3, 10), (7, 8), (7, 9), (7, 10), (8, 9), (8, 10), (9, 10)]) (vs_set 4 sc_put_in.nd (ve_call [] [] hc G_near (hr.mono (by decide)) (by rfl) O_near.m O_near.F.kp O_near.b (vo_cons (ve_name 0) vo_nil))))
    (vb_cons (vs_expr (ve_call [] [] hc G_check_place (hr.mono (by decide)) (by rfl) O_check_place.m O_check_place.F.kp O_check_place.b (vo_cons (ve_flat (ve_name 1)) (vo_cons (ve_op_s op_add ps_add (ve_callB_s call_lenX ps_len (by rfl) T.n_len (by decide +kernel) (va_cons (ve_name 4) va_nil)) ve_int) vo_nil))))
    (vb_cons (vs_expr (ve_call [] [] hc G_check_thing (hr.mono (by decide)) (by rfl) O_check_thing.m O_check_thing.F.kp O_check_thing.b (vo_cons (ve_flat (ve_name 2)) vo_nil)))
    (vb_cons (vs_weak (Rm := [(0, 1), (0, 2), (0, 3), (0, 5), (0, 7), (0, 8), (0, 9), (0, 10), (1, 2), (1, 3), (1, 5), (1, 7), (1, 8), (1, 9), (1, 10), (2, 3), (2, 5), (2, 7), (2, 8), (2, 9), (2, 10), (3, 5), (3, 7), (3, 8), (3, 9), (3, 10), (5, 7), (5, 8), (5, 9), (5, 10), (7, 8), (7, 9), (7, 10), (8, 9), (8, 10), (9, 10)]) (vs_set 5 sc_put_in.nd (ve_call [] [] hc G_checked_graces (hr.mono (by decide)) (by rfl) O_checked_graces.m O_checked_graces.F.kp O_checked_graces.b (vo_cons (ve_name 3) vo_nil))))
    (vb_cons (vs_weak (Rm := [(0, 1), (0, 2), (0, 3), (0, 5), (0, 7), (0, 8), (0, 9), (0, 10), (1, 2), (1, 3), (1, 5), (1, 7), (1, 8), (1, 9), (1, 10), (2, 3), (2, 5), (2, 7), (2, 8), (2, 9), (2, 10), (3, 5), (3, 7), (3, 8), (3, 9), (3, 10), (5, 7), (5, 8), (5, 9), (5, 10), (7, 8), (7, 9), (7, 10), (8, 9), (8, 10), (9, 10)]) (vs_set 6 sc_put_in.nd (ve_call [] [] hc G_reckoned (hr.mono (by decide)) (by rfl) O_reckoned.m O_reckoned.F.kp O_reckoned.b (vo_cons (ve_op_n op_cat pn_cat (ve_op_n op_cat pn_cat (ve_sl_n sl_list pn_slL (ve_name 4) vp_no (vp_so (ve_name 1))) (ve_lst (va_cons (ve_flat (ve_name 2)) va_nil))) (ve_sl_n sl_list pn_slL (ve_name 4) (vp_so (ve_name 1)) vp_no)) (vo_cons (ve_name 5) vo_nil)))))
    (vb_one (vs_ret (ve_tup (va_cons (ve_flat (ve_ix_g ix_q pg_ix (ve_name 6) (ve_name 1))) (va_cons (ve_call [] [] hc G_changes (hr.mono (by decide)) (by rfl) O_changes.m O_changes.F.kp O_changes.b (vo_cons (ve_call [] [] hc G_reckoned (hr.mono (by decide)) (by rfl) O_reckoned.m O_reckoned.F.kp O_reckoned.b (vo_cons (ve_name 4) (vo_cons (ve_name 5) vo_nil))) (vo_cons (ve_op_n op_cat pn_cat (ve_sl_n sl_list pn_slL (ve_name 6) vp_no (vp_so (ve_name 1))) (ve_sl_n sl_list pn_slL (ve_name 6) (vp_so (ve_op_s op_add ps_add (ve_name 1) ve_int)) vp_no)) vo_nil))) va_nil)))))))))))
theorem ok_l_jar {P : Program} {w : World} {K : PySem.W.Frag} {mg : Str → Option Value} {base : Heap} {f_l_jar : Addr} {fd_l_jar : FuncData} (T : Txt K mg) (O_l_jar : Own K mg "_law_jar" s_l_jar f_l_jar fd_l_jar ["_law_script", "_law_k"])
     :
    FnA Clean P w K mg base CX0 1 f_l_jar fd_l_jar ["_law_script", "_law_k"] (SpD K den_l_jar [] [] 2) := by
  refine fn_den (nl := 3) (np := 2) (Rn := []) O_l_jar.F sc_l_jar (by decide) rfl rfl (fun _ _ _ _ => rfl) (fun X H vs S h0 e1 e2 e3 e4 e5 e6 e7 e8 e9 hc hr hp => ?_)
  obtain ⟨prog, w', K', mg', base', A, N', s0, H0, env, outer, stack, ex, fn, calm, pn, xe⟩ := X
  obtain ⟨scope, locals, globals, cells, qual, func, code, frame, builtins⟩ := env
  cases e1; cases e2; cases e3; cases e4; cases e5; cases e6; cases e7; cases e8; cases e9
  exact ((vb_cons (vs_weak (Rm := [(0, 1), (0, 3), (0, 4), (1, 3), (1, 4), (3, 4)]) (vs_set 2 sc_l_jar.nd (ve_flat (ve_if (vt_cmp op_lt ps_lt (ve_name 1) (ve_callB_s call_lenX ps_len (by rfl) T.n_len (by decide +kernel) (va_cons (ve_name 0) va_nil))) (ve_ix_g ix_q pg_ix (ve_name 0) (ve_name 1)) ve_int))))
    (vb_one (vs_ret (ve_lst (va_cons (ve_callB_s (call_max2 rfl) ps_max2 (by rfl) T.n_max (by decide +kernel) (va_cons ve_int (va_cons (ve_op_s op_sub ps_sub (ve_name 2) (ve_op_s op_powW ps_pow ve_int ve_int)) va_nil))) (va_cons (ve_op_s op_add ps_add (ve_op_s op_mulW ps_mul (ve_op_s op_mod ps_mod (ve_name 2) (ve_op_s op_add ps_add (ve_op_s op_powW ps_pow ve_int ve_int) ve_int)) ve_int) (ve_name 1)) (va_cons ve_int va_nil))))))))
theorem ok_l_pour {P : Program} {w : World} {K : PySem.W.Frag} {mg : Str → Option Value} {base : Heap} {f_l_pour : Addr} {fd_l_pour : FuncData} (T : Txt K mg) (O_l_pour : Own K mg "_law_pour" s_l_pour f_l_pour fd_l_pour ["_law_jar_here", "_law_many"])
     :
    FnA Clean P w K mg base CX0 1 f_l_pour fd_l_pour ["_law_jar_here", "_law_many"] (SpD K den_l_pour [0] [] 2) := by
  refine fn_den (nl := 4) (np := 2) (Rn := []) O_l_pour.F sc_l_pour (by decide) rfl rfl (fun _ _ _ _ => rfl) (fun X H vs S h0 e1 e2 e3 e4 e5 e6 e7 e8 e9 hc hr hp => ?_)
  obtain ⟨prog, w', K', mg', base', A, N', s0, H0, env, outer, stack, ex, fn, calm, pn, xe⟩ := X
  obtain ⟨scope, locals, globals, cells, qual, func, code, frame, builtins⟩ := env
  cases e1; cases e2; cases e3; cases e4; cases e5; cases e6; cases e7; cases e8; cases e9
  exact ((vb_cons (vs_weak (Rm := [(1, 5)]) (vs_if (R1 := [(1, 5)]) (R2 := [(1, 5)]) (vt_cmp op_gt ps_gt (ve_ix_g ix_q pg_ix (ve_name 0) ve_int) ve_int)
    (vb_cons (vs_weak (Rm := [(1, 5)]) (vs_set 2 sc_l_pour.nd (ve_op_s op_mod ps_mod (ve_ix_g ix_q pg_ix (ve_name 0) ve_int) (ve_name 1))))
    (vb_cons (vs_putL 0 [] (ve_op_s op_fdivW ps_fdiv (ve_ix_g ix_q pg_ix (ve_name 0) ve_int) (ve_name 1)) ve_int)
    (vb_one (vs_ret (ve_flat (ve_name 2))))))
    (vb_weak (Rm := [(1, 5)]) vb_nil)))
    (vb_cons (vs_putL 0 [] (ve_op_s op_add ps_add (ve_ix_g ix_q pg_ix (ve_name 0) ve_int) ve_int) ve_int)
    (vb_cons (vs_weak (Rm := [(1, 5)]) (vs_set 3 sc_l_pour.nd (ve_op_s op_mod ps_mod (ve_op_s op_powW ps_pow (ve_op_s op_add ps_add (ve_ix_g ix_q pg_ix (ve_name 0) ve_int) (ve_op_s op_mulW ps_mul ve_int (ve_ix_g ix_q pg_ix (ve_name 0) ve_int))) ve_int) (ve_op_s op_add ps_add (ve_op_s op_powW ps_pow ve_int ve_int) ve_int))))
    (vb_cons (vs_weak (Rm := [(1, 5)]) (vs_set 3 sc_l_pour.nd (ve_op_s op_mod ps_mod (ve_op_s op_powW ps_pow (ve_op_s op_add ps_add (ve_name 3) (ve_op_s op_mulW ps_mul ve_int (ve_ix_g ix_q pg_ix (ve_name 0) ve_int))) ve_int) (ve_op_s op_add ps_add (ve_op_s op_powW ps_pow ve_int ve_int) ve_int))))
    (vb_one (vs_ret (ve_op_s op_mod ps_mod (ve_op_s op_fdivW ps_fdiv (ve_name 3) ve_int) (ve_name 1)))))))))
theorem ok_l_named {P : Program} {w : World} {K : PySem.W.Frag} {mg : Str → Option Value} {base : Heap} {f_l_pour : Addr} {fd_l_pour : FuncData} {f_l_named : Addr} {fd_l_named : FuncData} (T : Txt K mg) (O_l_pour : Own K mg "_law_pour" s_l_pour f_l_pour fd_l_pour ["_law_jar_here", "_law_many"]) (O_l_named : Own K mg "_law_named" s_l_named f_l_named fd_l_named ["_law_jar_here", "_law_many"])
    (G_l_pour : FnA Clean P w K mg base CX0 1 f_l_pour fd_l_pour ["_law_jar_here", "_law_many"] (SpD K den_l_pour [0] [] 2)) :
    FnA Clean P w K mg base CX0 2 f_l_named fd_l_named ["_law_jar_here", "_law_many"] (SpD K den_l_named [0] [] 2) := by
  refine fn_den (nl := 8) (np := 2) (Rn := []) O_l_named.F sc_l_named (by decide) rfl rfl (fun _ _ _ _ => rfl) (fun X H vs S h0 e1 e2 e3 e4 e5 e6 e7 e8 e9 hc hr hp => ?_)
  obtain ⟨prog, w', K', mg', base', A, N', s0, H0, env, outer, stack, ex, fn, calm, pn, xe⟩ := X
  obtain ⟨scope, locals, globals, cells, qual, func, code, frame, builtins⟩ := env
  cases e1; cases e2; cases e3; cases e4; cases e5; cases e6; cases e7; cases e8; cases e9
  exact ((vb_cons (vs_weak (Rm := [(1, 9)]) (vs_set 2 sc_l_named.nd ve_str))
    (vb_cons (vs_weak (Rm := [(1, 9)]) (vs_set 3 sc_l_named.nd (ve_call [0] [] hc G_l_pour (hr.mono (by decide)) (by rfl) O_l_pour.m O_l_pour.F.kp O_l_pour.b (vo_own 0 (vo_cons ve_int vo_nil)))))
    (vb_cons (vs_weak (Rm := [(1, 9)]) (vs_set 4 sc_l_named.nd (ve_m1 PySem.F.slot_str_join PySem.F.type_str_join (mt_joinX rfl) pm_join ve_str (ve_lc (fl := true) (own := [("_law_k", 6)]) 10 [(1, 9)] rfl sc_l_named.nd (vi_range1 (by rfl) T.n_range (va_cons (ve_call [0] [] hc G_l_pour (hr.mono (by decide)) (by rfl) O_l_pour.m O_l_pour.F.kp O_l_pour.b (vo_own 0 (vo_cons ve_int vo_nil))) va_nil)) (blkOk_by (own := [("_law_k", 6)]) (N := ["_law_jar_here", "_law_many", "_law_letters", "_law_style", "_law_stem", "_law_found", "_law_k", "_law_pair"]) (sc := defScope s_l_named) (by decide +kernel)) (fun _ => (vg_name 6 sc_l_named.nd)) (fun _ => vts_nil) (fun _ => (ve_ix_s ix_str ps_ixS (ve_name 2) (ve_call [0] [] hc G_l_pour (hr.mono (by decide)) (by rfl) O_l_pour.m O_l_pour.F.kp O_l_pour.b (vo_own 0 (vo_cons ve_int vo_nil)))))))))
    (vb_cons (vs_weak (Rm := [(1, 9)]) (vs_set 5 sc_l_named.nd (ve_lst va_nil)))
    (vb_cons (vs_weak (Rm := [(1, 9)]) (vs_for (fl := true) 10 [(1, 9)] hp rfl (vi_range1 (by rfl) T.n_range (va_cons (ve_name 1) va_nil)) (vg_name 6 sc_l_named.nd)
    (vb_cons (vs_weak (Rm := [(1, 9)]) (vs_set 7 sc_l_named.nd (ve_op_s op_add_str ps_addS (ve_ix_s ix_str ps_ixS (ve_name 2) (ve_op_s op_mod ps_mod (ve_name 6) ve_int)) (ve_ix_s ix_str ps_ixS (ve_name 2) (ve_op_s op_fdivW ps_fdiv (ve_name 6) ve_int)))))
    (vb_one (vs_expr (ve_mutL 5 [] PySem.F.slot_list_append PySem.F.type_list_append mt_append pm_append (va_cons (ve_flat (ve_ix_g ix_q pg_ix (ve_lst (va_cons (ve_op_s op_mulS ps_mulS (ve_ix_s ix_str ps_ixS (ve_name 2) (ve_op_s op_mod ps_mod (ve_name 6) ve_int)) (ve_op_s op_add ps_add ve_int (ve_op_s op_fdivW ps_fdiv (ve_name 6) ve_int))) (va_cons (ve_op_s op_add_str ps_addS (ve_name 4) (ve_name 7)) (va_cons (ve_op_s op_add_str ps_addS (ve_name 7) (ve_name 4)) va_nil)))) (ve_name 3))) va_nil)))))))
    (vb_one (vs_ret (ve_name 5)))))))))
theorem ok_l_asks {P : Program} {w : World} {K : PySem.W.Frag} {mg : Str → Option Value} {base : Heap} {f_l_pour : Addr} {fd_l_pour : FuncData} {f_l_asks : Addr} {fd_l_asks : FuncData} (T : Txt K mg) (O_l_pour : Own K mg "_law_pour" s_l_pour f_l_pour fd_l_pour ["_law_jar_here", "_law_many"]) (O_l_asks : Own K mg "_law_asks" s_l_asks f_l_asks fd_l_asks ["_law_jar_here", "_law_names", "_law_most"])
    (G_l_pour : FnA Clean P w K mg base CX0 1 f_l_pour fd_l_pour ["_law_jar_here", "_law_many"] (SpD K den_l_pour [0] [] 2)) :
    FnA Clean P w K mg base CX0 2 f_l_asks fd_l_asks ["_law_jar_here", "_law_names", "_law_most"] (SpD K den_l_asks [0] [] 3) := by
  refine fn_den (nl := 12) (np := 3) (Rn := []) O_l_asks.F sc_l_asks (by decide) rfl rfl (fun _ _ _ _ => rfl) (fun X H vs S h0 e1 e2 e3 e4 e5 e6 e7 e8 e9 hc hr hp => ?_)
  obtain ⟨prog, w', K', mg', base', A, N', s0, H0, env, outer, stack, ex, fn, calm, pn, xe⟩ := X
  obtain ⟨scope, locals, globals, cells, qual, func, code, frame, builtins⟩ := env
  cases e1; cases e2; cases e3; cases e4; cases e5; cases e6; cases e7; cases e8; cases e9
  exact ((vb_cons (vs_weak (Rm := [(1, 2), (1, 13), (1, 14), (2, 13), (2, 14), (13, 14)]) (vs_set 3 sc_l_asks.nd (ve_call [0] [] hc G_l_pour (hr.mono (by decide)) (by rfl) O_l_pour.m O_l_pour.F.kp O_l_pour.b (vo_own 0 (vo_cons ve_int vo_nil)))))
    (vb_cons (vs_weak (Rm := [(1, 2), (1, 13), (1, 14), (2, 13), (2, 14), (13, 14)]) (vs_set 4 sc_l_asks.nd (ve_op_s op_add ps_add ve_int (ve_call [0] [] hc G_l_pour (hr.mono (by decide)) (by rfl) O_l_pour.m O_l_pour.F.kp O_l_pour.b (vo_own 0 (vo_cons (ve_callB_s call_lenX ps_len (by rfl) T.n_len (by decide +kernel) (va_cons (ve_name 1) va_nil)) vo_nil))))))
    (vb_cons (vs_weak (Rm := [(1, 2), (1, 13), (1, 14), (2, 13), (2, 14), (13, 14)]) (vs_set 5 sc_l_asks.nd (ve_lst va_nil)))
    (vb_cons (vs_weak (Rm := [(1, 2), (1, 13), (1, 14), (2, 13), (2, 14), (13, 14)]) (vs_for (fl := true) 15 [(1, 2), (1, 13), (1, 14), (2, 13), (2, 14), (13, 14)] hp rfl (vi_range1 (by rfl) T.n_range (va_cons (ve_call [0] [] hc G_l_pour (hr.mono (by decide)) (by rfl) O_l_pour.m O_l_pour.F.kp O_l_pour.b (vo_own 0 (vo_cons (ve_op_s op_add ps_add (ve_name 2) ve_int) vo_nil))) va_nil)) (vg_name 6 sc_l_asks.nd)
    (vb_cons (vs_weak (Rm := [(1, 2), (1, 13), (1, 14), (2, 13), (2, 14), (13, 14)]) (vs_set 7 sc_l_asks.nd (ve_flat (ve_ix_g ix_q pg_ix (ve_name 1) (ve_call [0] [] hc G_l_pour (hr.mono (by decide)) (by rfl) O_l_pour.m O_l_pour.F.kp O_l_pour.b (vo_own 0 (vo_cons (ve_flat (ve_name 4)) vo_nil)))))))
    (vb_cons (vs_weak (Rm := [(1, 2), (1, 13), (1, 14), (2, 13), (2, 14), (13, 14)]) (vs_set 8 sc_l_asks.nd (ve_flat (ve_if (vt_cmp (op_neD (u64 hr)) ps_neD (ve_name 5) (ve_lst va_nil)) (ve_ix_g ix_q pg_ix (ve_name 5) (ve_op_s op_sub ps_sub (ve_op_s op_sub ps_sub (ve_callB_s call_lenX ps_len (by rfl) T.n_len (by decide +kernel) (va_cons (ve_name 5) va_nil)) ve_int) (ve_call [0] [] hc G_l_pour (hr.mono (by decide)) (by rfl) O_l_pour.m O_l_pour.F.kp O_l_pour.b (vo_own 0 (vo_cons (ve_callB_s (call_min2 rfl) ps_min2 (by rfl) T.n_min (by decide +kernel) (va_cons (ve_callB_s call_lenX ps_len (by rfl) T.n_len (by decide +kernel) (va_cons (ve_name 5) va_nil)) (va_cons ve_int va_nil))) vo_nil))))) (ve_name 7)))))
    (vb_cons (vs_weak (Rm := [(1, 2), (1, 13), (1, 14), (2, 13), (2, 14), (13, 14)]) (vs_set 9 sc_l_asks.nd (ve_flat (ve_ix_g ix_q pg_ix (ve_name 1) (ve_op_s op_mod ps_mod (ve_callB_s call_abs ps_abs (by rfl) T.n_abs (by decide +kernel) (va_cons (ve_op_s op_sub ps_sub (ve_op_s op_mod ps_mod (ve_name 6) (ve_op_s op_mulW ps_mul ve_int (ve_name 4))) (ve_name 4)) va_nil)) (ve_name 4))))))
    (vb_cons (vs_weak (Rm := [(1, 2), (1, 13), (1, 14), (2, 13), (2, 14), (13, 14)]) (vs_set 10 sc_l_asks.nd (ve_flat (ve_ix_g ix_q pg_ix (ve_name 1) (ve_op_s op_mod ps_mod (ve_name 6) (ve_name 4))))))
    (vb_cons (vs_weak (Rm := [(1, 2), (1, 13), (1, 14), (2, 13), (2, 14), (13, 14)]) (vs_set 11 sc_l_asks.nd (ve_call [0] [] hc G_l_pour (hr.mono (by decide)) (by rfl) O_l_pour.m O_l_pour.F.kp O_l_pour.b (vo_own 0 (vo_cons ve_int vo_nil)))))
    (vb_one (vs_expr (ve_mutL 5 [] PySem.F.slot_list_append PySem.F.type_list_append mt_append pm_append (va_cons (ve_flat (ve_ix_g ix_q pg_ix (ve_lst (va_cons (ve_flat (ve_name 7)) (va_cons (ve_flat (ve_name 10)) (va_cons (ve_flat (ve_if (vt_cmp op_gt ps_gt (ve_name 11) ve_int) (ve_name 8) (ve_name 7))) (va_cons (ve_flat (ve_name 9)) (va_cons (ve_flat (ve_if (vt_cmp op_eq ps_eqS (ve_name 11) ve_int) (ve_name 7) (ve_name 10))) va_nil)))))) (ve_name 3))) va_nil)))))))))))
    (vb_one (vs_ret (ve_name 5))))))))
theorem ok_l_graced {P : Program} {w : World} {K : PySem.W.Frag} {mg : Str → Option Value} {base : Heap} {f_l_pour : Addr} {fd_l_pour : FuncData} {f_l_graced : Addr} {fd_l_graced : FuncData} (T : Txt K mg) (O_l_pour : Own K mg "_law_pour" s_l_pour f_l_pour fd_l_pour ["_law_jar_here", "_law_many"]) (O_l_graced : Own K mg "_law_graced" s_l_graced f_l_graced fd_l_graced ["_law_jar_here", "_law_names"])
    (G_l_pour : FnA Clean P w K mg base CX0 1 f_l_pour fd_l_pour ["_law_jar_here", "_law_many"] (SpD K den_l_pour [0] [] 2)) :
    FnA Clean P w K mg base CX0 2 f_l_graced fd_l_graced ["_law_jar_here", "_law_names"] (SpD K den_l_graced [0] [] 2) := by
  refine fn_den (nl := 6) (np := 2) (Rn := []) O_l_graced.F sc_l_graced (by decide) rfl rfl (fun _ _ _ _ => rfl) (fun X H vs S h0 e1 e2 e3 e4 e5 e6 e7 e8 e9 hc hr hp => ?_)
  obtain ⟨prog, w', K', mg', base', A, N', s0, H0, env, outer, stack, ex, fn, calm, pn, xe⟩ := X
  obtain ⟨scope, locals, globals, cells, qual, func, code, frame, builtins⟩ := env
  cases e1; cases e2; cases e3; cases e4; cases e5; cases e6; cases e7; cases e8; cases e9
  exact ((vb_cons (vs_weak (Rm := [(1, 7)]) (vs_set 2 sc_l_graced.nd (ve_call [0] [] hc G_l_pour (hr.mono (by decide)) (by rfl) O_l_pour.m O_l_pour.F.kp O_l_pour.b (vo_own 0 (vo_cons ve_int vo_nil)))))
    (vb_cons (vs_weak (Rm := [(1, 7)]) (vs_set 3 sc_l_graced.nd ve_dnew))
    (vb_cons (vs_weak (Rm := [(1, 7)]) (vs_for (fl := true) 8 [(1, 7), (1, 8), (7, 8)] hp rfl (vi_seq (ve_name 1)) (vg_name 4 sc_l_graced.nd)
    (vb_cons (vs_weak (Rm := [(1, 7), (1, 8), (7, 8)]) (vs_set 5 sc_l_graced.nd (ve_ix_g ix_q pg_ix (ve_lst (va_cons (ve_op_s op_sub ps_sub (ve_call [0] [] hc G_l_pour (hr.mono (by decide)) (by rfl) O_l_pour.m O_l_pour.F.kp O_l_pour.b (vo_own 0 (vo_cons ve_int vo_nil))) ve_int) (va_cons (ve_op_s op_sub ps_sub (ve_call [0] [] hc G_l_pour (hr.mono (by decide)) (by rfl) O_l_pour.m O_l_pour.F.kp O_l_pour.b (vo_own 0 (vo_cons (ve_op_s op_mulW ps_mul ve_int (ve_op_s op_powW ps_pow ve_int ve_int)) vo_nil))) (ve_op_s op_powW ps_pow ve_int ve_int)) va_nil))) (ve_callT_s call_int1 ps_int (by rfl) T.n_int (by decide +kernel) (va_cons (ve_and (ve_cmp op_eq ps_eqS (ve_name 2) ve_int) (ve_one (ve_cmp op_eq ps_eqS (ve_call [0] [] hc G_l_pour (hr.mono (by decide)) (by rfl) O_l_pour.m O_l_pour.F.kp O_l_pour.b (vo_own 0 (vo_cons ve_int vo_nil))) ve_int))) va_nil)))))
    (vb_one (vs_weak (Rm := [(1, 7), (1, 8), (7, 8)]) (vs_if (R1 := [(1, 7), (1, 8), (7, 8)]) (R2 := [(1, 7), (1, 8), (7, 8)]) (vt_w (vw_and (vt_cmp op_gt ps_gt (ve_name 2) ve_int) (vw_and1 (vt_cmp op_eq ps_eqS (ve_call [0] [] hc G_l_pour (hr.mono (by decide)) (by rfl) O_l_pour.m O_l_pour.F.kp O_l_pour.b (vo_own 0 (vo_cons ve_int vo_nil))) ve_int))))
    (vb_weak (Rm := [(1, 7), (1, 8), (7, 8)]) (vb_one (vs_putK 3 [] (hu1 hr) (ve_flat (ve_name 5)) (ve_name 4))))
    (vb_weak (Rm := [(1, 7), (1, 8), (7, 8)]) vb_nil)))))))
    (vb_one (vs_ret (ve_name 3)))))))
theorem ok_l_folded {P : Program} {w : World} {K : PySem.W.Frag} {mg : Str → Option Value} {base : Heap} {f_l_pour : Addr} {fd_l_pour : FuncData} {f_l_folded : Addr} {fd_l_folded : FuncData} (T : Txt K mg) (O_l_pour : Own K mg "_law_pour" s_l_pour f_l_pour fd_l_pour ["_law_jar_here", "_law_many"]) (O_l_folded : Own K mg "_law_folded" s_l_folded f_l_folded fd_l_folded ["_law_jar_here", "_law_asks_here"])
    (G_l_pour : FnA Clean P w K mg base CX0 1 f_l_pour fd_l_pour ["_law_jar_here", "_law_many"] (SpD K den_l_pour [0] [] 2)) :
    FnA Clean P w K mg base CX0 2 f_l_folded fd_l_folded ["_law_jar_here", "_law_asks_here"] (SpD K den_l_folded [0] [] 2) := by
  refine fn_den (nl := 7) (np := 2) (Rn := []) O_l_folded.F sc_l_folded (by decide) rfl rfl (fun _ _ _ _ => rfl) (fun X H vs S h0 e1 e2 e3 e4 e5 e6 e7 e8 e9 hc hr hp => ?_)
  obtain ⟨prog, w', K', mg', base', A, N', s0, H0, env, outer, stack, ex, fn, calm, pn, xe⟩ := X
  obtain ⟨scope, locals, globals, cells, qual, func, code, frame, builtins⟩ := env
  cases e1; cases e2; cases e3; cases e4; cases e5; cases e6; cases e7; cases e8; cases e9
  exact ((vb_cons (vs_weak (Rm := [(1, 8)]) (vs_set 2 sc_l_folded.nd (ve_lst va_nil)))
    (vb_cons (vs_weak (Rm := [(1, 8)]) (vs_set 3 sc_l_folded.nd ve_int))
    (vb_cons (vs_weak (Rm := [(1, 8), (2, 4)]) (vs_while [(1, 8), (2, 4)] hp (vt_cmp op_lt ps_lt (ve_name 3) (ve_callB_s call_lenX ps_len (by rfl) T.n_len (by decide +kernel) (va_cons (ve_name 1) va_nil)))
    (vb_cons (vs_weak (Rm := [(1, 8)]) (vs_set 4 sc_l_folded.nd (ve_sl_n sl_list pn_slL (ve_name 1) (vp_so (ve_name 3)) (vp_so (ve_op_s op_add ps_add (ve_op_s op_add ps_add (ve_name 3) ve_int) (ve_call [0] [] hc G_l_pour (hr.mono (by decide)) (by rfl) O_l_pour.m O_l_pour.F.kp O_l_pour.b (vo_own 0 (vo_cons ve_int vo_nil))))))))
    (vb_cons (vs_weak (Rm := [(1, 8)]) (vs_set 5 sc_l_folded.nd (ve_callB_s call_lenX ps_len (by rfl) T.n_len (by decide +kernel) (va_cons (ve_name 4) va_nil))))
    (vb_cons (vs_weak (Rm := [(1, 8)]) (vs_set 6 sc_l_folded.nd (ve_op_s op_add ps_add (ve_name 3) (ve_name 5))))
    (vb_cons (vs_weak (Rm := [(1, 8)]) (vs_while [(1, 8)] hp (vt_cmp (op_eqD (u64 hr)) ps_eqD (ve_sl_n sl_list pn_slL (ve_name 1) (vp_so (ve_name 6)) (vp_so (ve_op_s op_add ps_add (ve_name 6) (ve_name 5)))) (ve_name 4))
    (vb_one (vs_weak (Rm := [(1, 8)]) (vs_set 6 sc_l_folded.nd (ve_op_s op_add ps_add (ve_name 6) (ve_name 5)))))))
    (vb_one (vs_weak (Rm := [(1, 8), (2, 4)]) (vs_if (R1 := [(1, 8), (2, 4)]) (R2 := [(1, 8), (2, 4)]) (vt_w (vw_or (vt_cmp op_gt ps_gt (ve_name 6) (ve_op_s op_add ps_add (ve_name 3) (ve_name 5))) (vw_or1 (vt_w (vw_and (vt_cmp op_lt ps_lt (ve_callB_s call_lenX ps_len (by rfl) T.n_len (by decide +kernel) (va_cons (ve_name 1) va_nil)) ve_int) (vw_and1 (vt_cmp op_eq ps_eqS (ve_call [0] [] hc G_l_pour (hr.mono (by decide)) (by rfl) O_l_pour.m O_l_pour.F.kp O_l_pour.b (vo_own 0 (vo_cons ve_int vo_nil))) ve_int)))))))
    (vb_weak (Rm := [(1, 8), (2, 4)]) (vb_cons (vs_weak (Rm := [(1, 8), (2, 4)]) (vs_appendS 2 [] (ve_tup (va_cons (ve_ix_g ix_q pg_ix (ve_lst (va_cons (ve_flat (ve_callT_g call_tupleOf pg_tuple (by rfl) T.n_tuple (by decide +kernel) (va_cons (ve_name 4) va_nil))) (va_cons (ve_name 4) va_nil))) (ve_call [0] [] hc G_l_pour (hr.mono (by decide)) (by rfl) O_l_pour.m O_l_pour.F.kp O_l_pour.b (vo_own 0 (vo_cons ve_int vo_nil)))) (va_cons (ve_op_s op_fdivW ps_fdiv (ve_op_s op_sub ps_sub (ve_name 6) (ve_name 3)) (ve_name 5)) va_nil)))))
    (vb_one (vs_weak (Rm := [(1, 8), (2, 4)]) (vs_set 3 sc_l_folded.nd (ve_flat (ve_name 6)))))))
    (vb_weak (Rm := [(1, 8), (2, 4)]) (vb_cons (vs_expr (ve_mutL 2 [] PySem.F.slot_list_append PySem.F.type_list_append mt_append pm_append (va_cons (ve_flat (ve_ix_g ix_q pg_ix (ve_name 1) (ve_name 3))) va_nil)))
    (vb_one (vs_weak (Rm := [(1, 8)]) (vs_set 3 sc_l_folded.nd (ve_op_s op_add ps_add (ve_name 3) ve_int)))))))))))))))
    (vb_one (vs_ret (ve_ix_g ix_q pg_ix (ve_lst (va_cons (ve_name 2) (va_cons (ve_callT_g call_tupleOf pg_tuple (by rfl) T.n_tuple (by decide +kernel) (va_cons (ve_name 2) va_nil)) va_nil))) (ve_call [0] [] hc G_l_pour (hr.mono (by decide)) (by rfl) O_l_pour.m O_l_pour.F.kp O_l_pour.b (vo_own 0 (vo_cons ve_int vo_nil))))))))))
end V48

set_option Elab.async false
set_option linter.all false
set_option maxRecDepth 100000
set_option maxHeartbeats 4000000
set_option exponentiation.threshold 20000
namespace V48
open PySem PySem.Spec L2 MC VD
open PyProof.Rows hiding St
theorem ok_l_depth_of {P : Program} {w : World} {K : PySem.W.Frag} {mg : Str → Option Value} {base : Heap} {f_l_depth_of : Addr} {fd_l_depth_of : FuncData} (T : Txt K mg) (O_l_depth_of : Own K mg "_law_depth_of" s_l_depth_of f_l_depth_of fd_l_depth_of ["_law_amid", "_law_grace"])
     :
    FnA Clean P w K mg base CX0 1 f_l_depth_of fd_l_depth_of ["_law_amid", "_law_grace"] (SpD K den_l_depth_of [] [] 2) := by
  refine fn_den (nl := 6) (np := 2) (Rn := []) O_l_depth_of.F sc_l_depth_of (by decide) rfl rfl (fun _ _ _ _ => rfl) (fun X H vs S h0 e1 e2 e3 e4 e5 e6 e7 e8 e9 hc hr hp => ?_)
  obtain ⟨prog, w', K', mg', base', A, N', s0, H0, env, outer, stack, ex, fn, calm, pn, xe⟩ := X
  obtain ⟨scope, locals, globals, cells, qual, func, code, frame, builtins⟩ := env
  cases e1; cases e2; cases e3; cases e4; cases e5; cases e6; cases e7; cases e8; cases e9
  exact ((vb_cons (vs_weak (Rm := [(0, 1), (0, 6), (0, 7), (1, 6), (1, 7), (6, 7)]) (vs_set 2 sc_l_depth_of.nd (ve_sortR (by rfl) T.n_sorted (va_cons (ve_lc (fl := true) (own := [("_law_one", 5)]) 8 [(0, 1), (0, 6), (0, 7), (0, 8), (1, 6), (1, 7), (1, 8), (6, 7), (6, 8), (7, 8)] rfl sc_l_depth_of.nd (vi_seq (ve_name 0)) (blkOk_by (own := [("_law_one", 5)]) (N := ["_law_amid", "_law_grace", "_law_some", "_law_many", "_law_d", "_law_one"]) (sc := defScope s_l_depth_of) (by decide +kernel)) (fun _ => (vg_name 5 sc_l_depth_of.nd)) (fun _ => vts_nil) (fun _ => (ve_flat (ve_if (vt_cmp op_isN ps_isN (ve_name 5) ve_non) (ve_op_s op_powW ps_pow ve_int ve_int) (ve_name 5))))) va_nil) (by decide +kernel))))
    (vb_cons (vs_weak (Rm := [(0, 1), (0, 6), (0, 7), (1, 6), (1, 7), (6, 7)]) (vs_for (fl := true) 8 [(0, 1), (0, 6), (0, 7), (1, 6), (1, 7), (6, 7)] hp rfl (vi_range3 (by rfl) T.n_range (va_cons (ve_callB_s call_lenX ps_len (by rfl) T.n_len (by decide +kernel) (va_cons (ve_name 2) va_nil)) (va_cons (ve_neg ve_int) (va_cons (ve_neg ve_int) va_nil)))) (vg_name 3 sc_l_depth_of.nd)
    (vb_cons (vs_weak (Rm := [(0, 1), (0, 6), (0, 7), (1, 6), (1, 7), (6, 7)]) (vs_set 4 sc_l_depth_of.nd (ve_op_s op_sub ps_sub (ve_name 3) (ve_name 1))))
    (vb_one (vs_weak (Rm := [(0, 1), (0, 6), (0, 7), (1, 6), (1, 7), (6, 7)]) (vs_if (R1 := [(0, 1), (0, 6), (0, 7), (1, 6), (1, 7), (6, 7)]) (R2 := [(0, 1), (0, 6), (0, 7), (1, 6), (1, 7), (6, 7)]) (vt_w (vw_and (vt_cmp op_ge ps_ge (ve_name 4) ve_int) (vw_and1 (vt_w (vw_or (vt_cmp op_eq ps_eqS (ve_name 3) ve_int) (vw_or1 (vt_cmp op_ge ps_ge (ve_ix_g ix_q pg_ix (ve_name 2) (ve_op_s op_sub ps_sub (ve_name 3) ve_int)) (ve_name 4))))))))
    (vb_one (vs_ret (ve_flat (ve_name 4))))
    (vb_weak (Rm := [(0, 1), (0, 6), (0, 7), (1, 6), (1, 7), (6, 7)]) vb_nil)))))))
    (vb_one (vs_ret ve_int)))))
theorem ok_l_depths {P : Program} {w : World} {K : PySem.W.Frag} {mg : Str → Option Value} {base : Heap} {f_l_depth_of : Addr} {fd_l_depth_of : FuncData} {f_l_depths : Addr} {fd_l_depths : FuncData} (T : Txt K mg) (O_l_depth_of : Own K mg "_law_depth_of" s_l_depth_of f_l_depth_of fd_l_depth_of ["_law_amid", "_law_grace"]) (O_l_depths : Own K mg "_law_depths" s_l_depths f_l_depths fd_l_depths ["_law_asks_here", "_law_boons"])
    (G_l_depth_of : FnA Clean P w K mg base CX0 1 f_l_depth_of fd_l_depth_of ["_law_amid", "_law_grace"] (SpD K den_l_depth_of [] [] 2)) :
    FnA Clean P w K mg base CX0 2 f_l_depths fd_l_depths ["_law_asks_here", "_law_boons"] (SpD K den_l_depths [] [] 2) := by
  refine fn_den (nl := 6) (np := 2) (Rn := []) O_l_depths.F sc_l_depths (by decide) rfl rfl (fun _ _ _ _ => rfl) (fun X H vs S h0 e1 e2 e3 e4 e5 e6 e7 e8 e9 hc hr hp => ?_)
  obtain ⟨prog, w', K', mg', base', A, N', s0, H0, env, outer, stack, ex, fn, calm, pn, xe⟩ := X
  obtain ⟨scope, locals, globals, cells, qual, func, code, frame, builtins⟩ := env
  cases e1; cases e2; cases e3; cases e4; cases e5; cases e6; cases e7; cases e8; cases e9
  exact ((vb_cons (vs_weak (Rm := [(0, 1), (0, 6), (0, 7), (1, 6), (1, 7), (6, 7)]) (vs_set 2 sc_l_depths.nd (ve_lst va_nil)))
    (vb_cons (vs_weak (Rm := [(0, 1), (0, 6), (0, 7), (1, 6), (1, 7), (6, 7)]) (vs_set 3 sc_l_depths.nd ve_dnew))
    (vb_cons (vs_weak (Rm := [(0, 1), (0, 6), (0, 7), (1, 6), (1, 7), (6, 7)]) (vs_for (fl := true) 8 [(0, 1), (0, 6), (0, 7), (0, 8), (1, 6), (1, 7), (1, 8), (6, 7), (6, 8), (7, 8)] hp rfl (vi_enum (by rfl) T.n_enumerate (va_cons (ve_name 0) va_nil)) (vg_tup rfl (vgs_cons (vg_name 4 sc_l_depths.nd) (vgs_cons (vg_name 5 sc_l_depths.nd) vgs_nil)))
    (vb_cons (vs_expr (ve_mutL 2 [] PySem.F.slot_list_append PySem.F.type_list_append mt_append pm_append (va_cons (ve_if (vt_din (hu1 hr) (ve_name 5) (ve_name 3)) (ve_call [] [] hc G_l_depth_of (hr.mono (by decide)) (by rfl) O_l_depth_of.m O_l_depth_of.F.kp O_l_depth_of.b (vo_cons (ve_sl_n sl_list pn_slL (ve_name 2) (vp_so (ve_op_s op_add ps_add (ve_dget (hu1 hr) (ve_name 3) (ve_name 5)) ve_int)) vp_no) (vo_cons (ve_flat (ve_get2 (hu1 hr) (ve_name 1) (ve_name 5) ve_int)) vo_nil))) ve_non) va_nil)))
    (vb_one (vs_putK 3 [] (hu1 hr) (ve_flat (ve_name 4)) (ve_name 5))))))
    (vb_one (vs_ret (ve_name 2)))))))
theorem ok_l_changes {P : Program} {w : World} {K : PySem.W.Frag} {mg : Str → Option Value} {base : Heap} {f_l_changes : Addr} {fd_l_changes : FuncData} (T : Txt K mg) (O_l_changes : Own K mg "_law_changes" s_l_changes f_l_changes fd_l_changes ["_law_old", "_law_new"])
     :
    FnA Clean P w K mg base CX0 1 f_l_changes fd_l_changes ["_law_old", "_law_new"] (SpD K den_l_changes [] [] 2) := by
  refine fn_den (nl := 3) (np := 2) (Rn := []) O_l_changes.F sc_l_changes (by decide) rfl rfl (fun _ _ _ _ => rfl) (fun X H vs S h0 e1 e2 e3 e4 e5 e6 e7 e8 e9 hc hr hp => ?_)
  obtain ⟨prog, w', K', mg', base', A, N', s0, H0, env, outer, stack, ex, fn, calm, pn, xe⟩ := X
  obtain ⟨scope, locals, globals, cells, qual, func, code, frame, builtins⟩ := env
  cases e1; cases e2; cases e3; cases e4; cases e5; cases e6; cases e7; cases e8; cases e9
  exact ((vb_one (vs_ret (ve_lc (fl := true) (own := [("_law_k", 2)]) 5 [(0, 1), (0, 3), (0, 4), (1, 3), (1, 4), (3, 4)] rfl sc_l_changes.nd (vi_range1 (by rfl) T.n_range (va_cons (ve_callB_s call_lenX ps_len (by rfl) T.n_len (by decide +kernel) (va_cons (ve_name 0) va_nil)) va_nil)) (blkOk_by (own := [("_law_k", 2)]) (N := ["_law_old", "_law_new", "_law_k"]) (sc := defScope s_l_changes) (by decide +kernel)) (fun _ => (vg_name 2 sc_l_changes.nd)) (fun _ => (vts_one (vt_cmp (op_neD (u64 hr)) ps_neD (ve_ix_g ix_q pg_ix (ve_name 0) (ve_name 2)) (ve_ix_g ix_q pg_ix (ve_name 1) (ve_name 2))))) (fun _ => (ve_tup (va_cons (ve_flat (ve_name 2)) (va_cons (ve_flat (ve_ix_g ix_q pg_ix (ve_name 0) (ve_name 2))) (va_cons (ve_flat (ve_ix_g ix_q pg_ix (ve_name 1) (ve_name 2))) va_nil)))))))))
theorem ok_l_due {P : Program} {w : World} {K : PySem.W.Frag} {mg : Str → Option Value} {base : Heap} {f_l_depths : Addr} {fd_l_depths : FuncData} {f_l_changes : Addr} {fd_l_changes : FuncData} {f_l_due : Addr} {fd_l_due : FuncData} (T : Txt K mg) (O_l_depths : Own K mg "_law_depths" s_l_depths f_l_depths fd_l_depths ["_law_asks_here", "_law_boons"]) (O_l_changes : Own K mg "_law_changes" s_l_changes f_l_changes fd_l_changes ["_law_old", "_law_new"]) (O_l_due : Own K mg "_law_due" s_l_due f_l_due fd_l_due ["_law_asks_here", "_law_boons", "_law_place", "_law_thing"])
    (G_l_depths : FnA Clean P w K mg base CX0 2 f_l_depths fd_l_depths ["_law_asks_here", "_law_boons"] (SpD K den_l_depths [] [] 2)) (G_l_changes : FnA Clean P w K mg base CX0 1 f_l_changes fd_l_changes ["_law_old", "_law_new"] (SpD K den_l_changes [] [] 2)) :
    FnA Clean P w K mg base CX0 3 f_l_due fd_l_due ["_law_asks_here", "_law_boons", "_law_place", "_law_thing"] (SpD K den_l_due [] [] 4) := by
  refine fn_den (nl := 5) (np := 4) (Rn := []) O_l_due.F sc_l_due (by decide) rfl rfl (fun _ _ _ _ => rfl) (fun X H vs S h0 e1 e2 e3 e4 e5 e6 e7 e8 e9 hc hr hp => ?_)
  obtain ⟨prog, w', K', mg', base', A, N', s0, H0, env, outer, stack, ex, fn, calm, pn, xe⟩ := X
  obtain ⟨scope, locals, globals, cells, qual, func, code, frame, builtins⟩ := env
  cases e1; cases e2; cases e3; cases e4; cases e5; cases e6; cases e7; cases e8; cases e9
  exact ((vb_cons (vs_weak (Rm := [(0, 1), (0, 2), (0, 3), (0, 5), (0, 6), (0, 7), (0, 8), (1, 2), (1, 3), (1, 5), (1, 6), (1, 7), (1, 8), (2, 3), (2, 5), (2, 6), (2, 7), (2, 8), (3, 5), (3, 6), (3, 7), (3, 8), (5, 6), (5, 7), (5, 8), (6, 7), (6, 8), (7, 8)]) (vs_set 4 sc_l_due.nd (ve_call [] [] hc G_l_depths (hr.mono (by decide)) (by rfl) O_l_depths.m O_l_depths.F.kp O_l_depths.b (vo_cons (ve_op_n op_cat pn_cat (ve_op_n op_cat pn_cat (ve_sl_n sl_list pn_slL (ve_name 0) vp_no (vp_so (ve_name 2))) (ve_lst (va_cons (ve_flat (ve_name 3)) va_nil))) (ve_sl_n sl_list pn_slL (ve_name 0) (vp_so (ve_name 2)) vp_no)) (vo_cons (ve_name 1) vo_nil)))))
    (vb_one (vs_ret (ve_tup (va_cons (ve_flat (ve_ix_g ix_q pg_ix (ve_name 4) (ve_name 2))) (va_cons (ve_call [] [] hc G_l_changes (hr.mono (by decide)) (by rfl) O_l_changes.m O_l_changes.F.kp O_l_changes.b (vo_cons (ve_call [] [] hc G_l_depths (hr.mono (by decide)) (by rfl) O_l_depths.m O_l_depths.F.kp O_l_depths.b (vo_cons (ve_name 0) (vo_cons (ve_name 1) vo_nil))) (vo_cons (ve_op_n op_cat pn_cat (ve_sl_n sl_list pn_slL (ve_name 4) vp_no (vp_so (ve_name 2))) (ve_sl_n sl_list pn_slL (ve_name 4) (vp_so (ve_op_s op_add ps_add (ve_name 2) ve_int)) vp_no)) vo_nil))) va_nil)))))))
theorem ok_l_right {P : Program} {w : World} {K : PySem.W.Frag} {mg : Str → Option Value} {base : Heap} {f_put_in : Addr} {fd_put_in : FuncData} {f_l_pour : Addr} {fd_l_pour : FuncData} {f_l_folded : Addr} {fd_l_folded : FuncData} {f_l_due : Addr} {fd_l_due : FuncData} {f_l_right : Addr} {fd_l_right : FuncData} (T : Txt K mg) (O_put_in : Own_put_in K mg f_put_in fd_put_in) (O_l_pour : Own K mg "_law_pour" s_l_pour f_l_pour fd_l_pour ["_law_jar_here", "_law_many"]) (O_l_folded : Own K mg "_law_folded" s_l_folded f_l_folded fd_l_folded ["_law_jar_here", "_law_asks_here"]) (O_l_due : Own K mg "_law_due" s_l_due f_l_due fd_l_due ["_law_asks_here", "_law_boons", "_law_place", "_law_thing"]) (O_l_right : Own K mg "_law_right" s_l_right f_l_right fd_l_right ["_law_jar_here", "_law_asks_here", "_law_boons", "_law_thing"])
    (G_put_in : FnA Clean P w K mg base CX0 15 f_put_in fd_put_in ["row", "place", "thing", "graces"] (SpD K den_put_in [] [] 4)) (G_l_pour : FnA Clean P w K mg base CX0 1 f_l_pour fd_l_pour ["_law_jar_here", "_law_many"] (SpD K den_l_pour [0] [] 2)) (G_l_folded : FnA Clean P w K mg base CX0 2 f_l_folded fd_l_folded ["_law_jar_here", "_law_asks_here"] (SpD K den_l_folded [0] [] 2)) (G_l_due : FnA Clean P w K mg base CX0 3 f_l_due fd_l_due ["_law_asks_here", "_law_boons", "_law_place", "_law_thing"] (SpD K den_l_due [] [] 4)) :
    FnA Clean P w K mg base CX0 16 f_l_right fd_l_right ["_law_jar_here", "_law_asks_here", "_law_boons", "_law_thing"] (SpD K den_l_right [0] [] 4) := by
  refine fn_den (nl := 10) (np := 4) (Rn := []) O_l_right.F sc_l_right (by decide) rfl rfl (fun _ _ _ _ => rfl) (fun X H vs S h0 e1 e2 e3 e4 e5 e6 e7 e8 e9 hc hr hp => ?_)
  obtain ⟨prog, w', K', mg', base', A, N', s0, H0, env, outer, stack, ex, fn, calm, pn, xe⟩ := X
  obtain ⟨scope, locals, globals, cells, qual, func, code, frame, builtins⟩ := env
  cases e1; cases e2; cases e3; cases e4; cases e5; cases e6; cases e7; cases e8; cases e9
  exact ((vb_cons (vs_weak (Rm := [(1, 2), (1, 3), (1, 11), (1, 12), (1, 13), (2, 3), (2, 11), (2, 12), (2, 13), (3, 11), (3, 12), (3, 13), (11, 12), (11, 13), (12, 13)]) (vs_set 4 sc_l_right.nd (ve_ix_g ix_q pg_ix (ve_lst (va_cons ve_int (va_cons (ve_callB_s call_lenX ps_len (by rfl) T.n_len (by decide +kernel) (va_cons (ve_name 1) va_nil)) (va_cons (ve_call [0] [] hc G_l_pour (hr.mono (by decide)) (by rfl) O_l_pour.m O_l_pour.F.kp O_l_pour.b (vo_own 0 (vo_cons (ve_op_s op_add ps_add (ve_callB_s call_lenX ps_len (by rfl) T.n_len (by decide +kernel) (va_cons (ve_name 1) va_nil)) ve_int) vo_nil))) (va_cons (ve_call [0] [] hc G_l_pour (hr.mono (by decide)) (by rfl) O_l_pour.m O_l_pour.F.kp O_l_pour.b (vo_own 0 (vo_cons (ve_op_s op_add ps_add (ve_callB_s call_lenX ps_len (by rfl) T.n_len (by decide +kernel) (va_cons (ve_name 1) va_nil)) ve_int) vo_nil))) va_nil))))) (ve_call [0] [] hc G_l_pour (hr.mono (by decide)) (by rfl) O_l_pour.m O_l_pour.F.kp O_l_pour.b (vo_own 0 (vo_cons ve_int vo_nil))))))
    (vb_cons (vs_weak (Rm := [(1, 2), (1, 3), (1, 11), (1, 12), (1, 13), (2, 3), (2, 11), (2, 12), (2, 13), (3, 11), (3, 12), (3, 13), (11, 12), (11, 13), (12, 13)]) (vs_set 5 sc_l_right.nd (ve_call [] [] hc G_l_due (hr.mono (by decide)) (by rfl) O_l_due.m O_l_due.F.kp O_l_due.b (vo_cons (ve_name 1) (vo_cons (ve_name 2) (vo_cons (ve_flat (ve_name 4)) (vo_cons (ve_flat (ve_name 3)) vo_nil)))))))
    (vb_cons (vs_weak (Rm := [(1, 2), (1, 3), (1, 6), (1, 11), (1, 12), (1, 13), (2, 3), (2, 6), (2, 11), (2, 12), (2, 13), (3, 6), (3, 11), (3, 12), (3, 13), (6, 11), (6, 12), (6, 13), (11, 12), (11, 13), (12, 13)]) (vs_set 6 sc_l_right.nd (ve_ix_g ix_q pg_ix (ve_lst (va_cons (ve_name 1) (va_cons (ve_flat (ve_callT_g call_tupleOf pg_tuple (by rfl) T.n_tuple (by decide +kernel) (va_cons (ve_name 1) va_nil))) (va_cons (ve_call [0] [] hc G_l_folded (hr.mono (by decide)) (by rfl) O_l_folded.m O_l_folded.F.kp O_l_folded.b (vo_own 0 (vo_cons (ve_name 1) vo_nil))) va_nil)))) (ve_call [0] [] hc G_l_pour (hr.mono (by decide)) (by rfl) O_l_pour.m O_l_pour.F.kp O_l_pour.b (vo_own 0 (vo_cons ve_int vo_nil))))))
    (vb_cons (vs_weak (Rm := [(1, 2), (1, 3), (1, 6), (1, 11), (1, 12), (1, 13), (2, 3), (2, 6), (2, 11), (2, 12), (2, 13), (3, 6), (3, 11), (3, 12), (3, 13), (6, 11), (6, 12), (6, 13), (11, 12), (11, 13), (12, 13)]) (vs_set 7 sc_l_right.nd (ve_callB_s (call_reprV hc (u200 hr) T.sys) ps_repr (by rfl) T.n_repr (by decide +kernel) (va_cons (ve_lst (va_cons (ve_name 6) (va_cons (ve_name 2) va_nil))) va_nil))))
    (vb_cons (vs_weak (Rm := [(1, 2), (1, 3), (1, 6), (1, 11), (1, 12), (1, 13), (2, 3), (2, 6), (2, 11), (2, 12), (2, 13), (3, 6), (3, 11), (3, 12), (3, 13), (6, 11), (6, 12), (6, 13), (11, 12), (11, 13), (12, 13)]) (vs_for (fl := true) 14 [(1, 2), (1, 3), (1, 6), (1, 11), (1, 12), (1, 13), (2, 3), (2, 6), (2, 11), (2, 12), (2, 13), (3, 6), (3, 11), (3, 12), (3, 13), (6, 11), (6, 12), (6, 13), (11, 12), (11, 13), (12, 13)] hp rfl (vi_range1 (by rfl) T.n_range (va_cons ve_int va_nil)) (vg_name 8 sc_l_right.nd)
    (vb_cons (vs_weak (Rm := [(1, 2), (1, 3), (1, 6), (1, 11), (1, 12), (1, 13), (2, 3), (2, 6), (2, 11), (2, 12), (2, 13), (3, 6), (3, 11), (3, 12), (3, 13), (6, 11), (6, 12), (6, 13), (11, 12), (11, 13), (12, 13)]) (vs_set 9 sc_l_right.nd (ve_callK [some 0, some 1, some 2, some 3] [] [] hc G_put_in (hr.mono (by decide)) (by rfl) O_put_in.m O_put_in.F.kp O_put_in.kp_put_in_3_graces (vo_cons (ve_name 6) (vo_cons (ve_flat (ve_name 4)) (vo_cons (ve_flat (ve_name 3)) vo_nil))) (vk_cons (ve_name 2) vk_nil))))
    (vb_cons (vs_weak (Rm := [(1, 2), (1, 3), (1, 6), (1, 11), (1, 12), (1, 13), (2, 3), (2, 6), (2, 11), (2, 12), (2, 13), (3, 6), (3, 11), (3, 12), (3, 13), (6, 11), (6, 12), (6, 13), (11, 12), (11, 13), (12, 13)]) (vs_if (R1 := [(1, 2), (1, 3), (1, 6), (1, 11), (1, 12), (1, 13), (2, 3), (2, 6), (2, 11), (2, 12), (2, 13), (3, 6), (3, 11), (3, 12), (3, 13), (6, 11), (6, 12), (6, 13), (11, 12), (11, 13), (12, 13)]) (R2 := [(1, 2), (1, 3), (1, 6), (1, 11), (1, 12), (1, 13), (2, 3), (2, 6), (2, 11), (2, 12), (2, 13), (3, 6), (3, 11), (3, 12), (3, 13), (6, 11), (6, 12), (6, 13), (11, 12), (11, 13), (12, 13)]) (vt_w (vw_or (vt_cmp op_ne ps_neS (ve_callB_s (call_reprV hc (u200 hr) T.sys) ps_repr (by rfl) T.n_repr (by decide +kernel) (va_cons (ve_name 9) va_nil)) (ve_callB_s (call_reprV hc (u200 hr) T.sys) ps_repr (by rfl) T.n_repr (by decide +kernel) (va_cons (ve_name 5) va_nil))) (vw_or1 (vt_cmp op_ne ps_neS (ve_callB_s (call_reprV hc (u200 hr) T.sys) ps_repr (by rfl) T.n_repr (by decide +kernel) (va_cons (ve_lst (va_cons (ve_name 6) (va_cons (ve_name 2) va_nil))) va_nil)) (ve_name 7)))))
    vb_never
    (vb_weak (Rm := [(1, 2), (1, 3), (1, 6), (1, 11), (1, 12), (1, 13), (2, 3), (2, 6), (2, 11), (2, 12), (2, 13), (3, 6), (3, 11), (3, 12), (3, 13), (6, 11), (6, 12), (6, 13), (11, 12), (11, 13), (12, 13)]) vb_nil)))
    (vb_cons (vs_expr (ve_mutT 9 1 [] PySem.F.slot_list_append PySem.F.type_list_append mt_append pm_append (va_cons (ve_tup (va_cons ve_int (va_cons ve_int (va_cons ve_int va_nil)))) va_nil)))
    (vb_one (vs_expr (ve_mutT 9 1 [] PySem.F.slot_list_pop PySem.F.type_list_pop mt_popAt pm_popAt (va_cons ve_int va_nil)))))))))
    (vb_one (vs_ret (ve_or (ve_cmp (op_neK (hu0 hr)) ps_eqK (ve_name 2) ve_dnew) (ve_one (ve_cmp op_eq ps_eqS (ve_callB_s (call_reprV hc (u200 hr) T.sys) ps_repr (by rfl) T.n_repr (by decide +kernel) (va_cons (ve_callK [some 0, some 1, some 2, none] [] [] hc G_put_in (hr.mono (by decide)) (by rfl) O_put_in.m O_put_in.F.kp O_put_in.kp_put_in_3 (vo_cons (ve_name 6) (vo_cons (ve_flat (ve_name 4)) (vo_cons (ve_flat (ve_name 3)) vo_nil))) vk_nil) va_nil)) (ve_callB_s (call_reprV hc (u200 hr) T.sys) ps_repr (by rfl) T.n_repr (by decide +kernel) (va_cons (ve_name 5) va_nil)))))))))))))
theorem ok_l_full_right {P : Program} {w : World} {K : PySem.W.Frag} {mg : Str → Option Value} {base : Heap} {f_put_in : Addr} {fd_put_in : FuncData} {f_l_due : Addr} {fd_l_due : FuncData} {f_l_full_right : Addr} {fd_l_full_right : FuncData} (T : Txt K mg) (O_put_in : Own_put_in K mg f_put_in fd_put_in) (O_l_due : Own K mg "_law_due" s_l_due f_l_due fd_l_due ["_law_asks_here", "_law_boons", "_law_place", "_law_thing"]) (O_l_full_right : Own K mg "_law_full_right" s_l_full_right f_l_full_right fd_l_full_right [])
    (G_put_in : FnA Clean P w K mg base CX0 15 f_put_in fd_put_in ["row", "place", "thing", "graces"] (SpD K den_put_in [] [] 4)) (G_l_due : FnA Clean P w K mg base CX0 3 f_l_due fd_l_due ["_law_asks_here", "_law_boons", "_law_place", "_law_thing"] (SpD K den_l_due [] [] 4)) :
    FnA Clean P w K mg base CX0 16 f_l_full_right fd_l_full_right [] (SpD K den_l_full_right [] [] 0) := by
  refine fn_den (nl := 3) (np := 0) (Rn := []) O_l_full_right.F sc_l_full_right (by decide) rfl rfl (fun _ _ _ _ => rfl) (fun X H vs S h0 e1 e2 e3 e4 e5 e6 e7 e8 e9 hc hr hp => ?_)
  obtain ⟨prog, w', K', mg', base', A, N', s0, H0, env, outer, stack, ex, fn, calm, pn, xe⟩ := X
  obtain ⟨scope, locals, globals, cells, qual, func, code, frame, builtins⟩ := env
  cases e1; cases e2; cases e3; cases e4; cases e5; cases e6; cases e7; cases e8; cases e9
  exact ((vb_cons (vs_weak (Rm := []) (vs_set 0 sc_l_full_right.nd (ve_op_n op_rep pn_rep (ve_lst (va_cons ve_str (va_cons ve_str (va_cons ve_str (va_cons ve_str va_nil))))) ve_int)))
    (vb_cons (vs_weak (Rm := []) (vs_for (fl := true) 3 [] hp rfl (vi_seq (ve_lst (va_cons (ve_tup (va_cons ve_int (va_cons ve_str va_nil))) (va_cons (ve_tup (va_cons ve_int (va_cons ve_str va_nil))) (va_cons (ve_tup (va_cons ve_int (va_cons ve_str va_nil))) va_nil))))) (vg_tup rfl (vgs_cons (vg_name 1 sc_l_full_right.nd) (vgs_cons (vg_name 2 sc_l_full_right.nd) vgs_nil)))
    (vb_one (vs_weak (Rm := []) (vs_if (R1 := []) (R2 := []) (vt_cmp op_ne ps_neS (ve_callB_s (call_reprV hc (u200 hr) T.sys) ps_repr (by rfl) T.n_repr (by decide +kernel) (va_cons (ve_callK [some 0, some 1, some 2, none] [] [] hc G_put_in (hr.mono (by decide)) (by rfl) O_put_in.m O_put_in.F.kp O_put_in.kp_put_in_3 (vo_cons (ve_name 0) (vo_cons (ve_flat (ve_name 1)) (vo_cons (ve_flat (ve_name 2)) vo_nil))) vk_nil) va_nil)) (ve_callB_s (call_reprV hc (u200 hr) T.sys) ps_repr (by rfl) T.n_repr (by decide +kernel) (va_cons (ve_call [] [] hc G_l_due (hr.mono (by decide)) (by rfl) O_l_due.m O_l_due.F.kp O_l_due.b (vo_cons (ve_name 0) (vo_cons ve_dnew (vo_cons (ve_flat (ve_name 1)) (vo_cons (ve_flat (ve_name 2)) vo_nil))))) va_nil)))
    vb_never
    (vb_weak (Rm := []) vb_nil))))))
    (vb_one (vs_ret ve_bl)))))
theorem ok_law {P : Program} {w : World} {K : PySem.W.Frag} {mg : Str → Option Value} {base : Heap} {f_put_in : Addr} {fd_put_in : FuncData} {f_l_jar : Addr} {fd_l_jar : FuncData} {f_l_pour : Addr} {fd_l_pour : FuncData} {f_l_named : Addr} {fd_l_named : FuncData} {f_l_asks : Addr} {fd_l_asks : FuncData} {f_l_graced : Addr} {fd_l_graced : FuncData} {f_l_right : Addr} {fd_l_right : FuncData} {f_l_full_right : Addr} {fd_l_full_right : FuncData} {f_law : Addr} {fd_law : FuncData} (T : Txt K mg) (O_put_in : Own_put_in K mg f_put_in fd_put_in) (O_l_jar : Own K mg "_law_jar" s_l_jar f_l_jar fd_l_jar ["_law_script", "_law_k"]) (O_l_pour : Own K mg "_law_pour" s_l_pour f_l_pour fd_l_pour ["_law_jar_here", "_law_many"]) (O_l_named : Own K mg "_law_named" s_l_named f_l_named fd_l_named ["_law_jar_here", "_law_many"]) (O_l_asks : Own K mg "_law_asks" s_l_asks f_l_asks fd_l_asks ["_law_jar_here", "_law_names", "_law_most"]) (O_l_graced : Own K mg "_law_graced" s_l_graced f_l_graced fd_l_graced ["_law_jar_here", "_law_names"]) (O_l_right : Own K mg "_law_right" s_l_right f_l_right fd_l_right ["_law_jar_here", "_law_asks_here", "_law_boons", "_law_thing"]) (O_l_full_right : Own K mg "_law_full_right" s_l_full_right f_l_full_right fd_l_full_right []) (O_law : Own K mg "law" s_law f_law fd_law ["_law_script"])
    (G_put_in : FnA Clean P w K mg base CX0 15 f_put_in fd_put_in ["row", "place", "thing", "graces"] (SpD K den_put_in [] [] 4)) (G_l_jar : FnA Clean P w K mg base CX0 1 f_l_jar fd_l_jar ["_law_script", "_law_k"] (SpD K den_l_jar [] [] 2)) (G_l_pour : FnA Clean P w K mg base CX0 1 f_l_pour fd_l_pour ["_law_jar_here", "_law_many"] (SpD K den_l_pour [0] [] 2)) (G_l_named : FnA Clean P w K mg base CX0 2 f_l_named fd_l_named ["_law_jar_here", "_law_many"] (SpD K den_l_named [0] [] 2)) (G_l_asks : FnA Clean P w K mg base CX0 2 f_l_asks fd_l_asks ["_law_jar_here", "_law_names", "_law_most"] (SpD K den_l_asks [0] [] 3)) (G_l_graced : FnA Clean P w K mg base CX0 2 f_l_graced fd_l_graced ["_law_jar_here", "_law_names"] (SpD K den_l_graced [0] [] 2)) (G_l_right : FnA Clean P w K mg base CX0 16 f_l_right fd_l_right ["_law_jar_here", "_law_asks_here", "_law_boons", "_law_thing"] (SpD K den_l_right [0] [] 4)) (G_l_full_right : FnA Clean P w K mg base CX0 16 f_l_full_right fd_l_full_right [] (SpD K den_l_full_right [] [] 0)) :
    FnA Clean P w K mg base CX0 17 f_law fd_law ["_law_script"] (SpD K den_law [] [] 1) := by
  refine fn_den (nl := 9) (np := 1) (Rn := []) O_law.F sc_law (by decide) rfl rfl (fun _ _ _ _ => rfl) (fun X H vs S h0 e1 e2 e3 e4 e5 e6 e7 e8 e9 hc hr hp => ?_)
  obtain ⟨prog, w', K', mg', base', A, N', s0, H0, env, outer, stack, ex, fn, calm, pn, xe⟩ := X
  obtain ⟨scope, locals, globals, cells, qual, func, code, frame, builtins⟩ := env
  cases e1; cases e2; cases e3; cases e4; cases e5; cases e6; cases e7; cases e8; cases e9
  exact ((vb_cons (vs_weak (Rm := [(0, 9)]) (vs_for (fl := true) 10 [(0, 9)] hp rfl (vi_range1 (by rfl) T.n_range (va_cons (ve_callB_s (call_max2 rfl) ps_max2 (by rfl) T.n_max (by decide +kernel) (va_cons ve_int (va_cons (ve_callB_s (call_min2 rfl) ps_min2 (by rfl) T.n_min (by decide +kernel) (va_cons ve_int (va_cons (ve_callB_s call_lenX ps_len (by rfl) T.n_len (by decide +kernel) (va_cons (ve_name 0) va_nil)) va_nil))) va_nil))) va_nil)) (vg_name 1 sc_law.nd)
    (vb_cons (vs_weak (Rm := [(0, 9)]) (vs_set 2 sc_law.nd (ve_call [] [] hc G_l_jar (hr.mono (by decide)) (by rfl) O_l_jar.m O_l_jar.F.kp O_l_jar.b (vo_cons (ve_name 0) (vo_cons (ve_flat (ve_name 1)) vo_nil)))))
    (vb_one (vs_weak (Rm := [(0, 9)]) (vs_for (fl := true) 11 [(0, 9)] hp rfl (vi_seq (ve_lst (va_cons ve_int (va_cons (ve_ix_g ix_q pg_ix (ve_lst (va_cons ve_int (va_cons ve_int (va_cons ve_int va_nil)))) (ve_call [2] [] hc G_l_pour (hr.mono (by decide)) (by rfl) O_l_pour.m O_l_pour.F.kp O_l_pour.b (vo_own 2 (vo_cons ve_int vo_nil)))) va_nil)))) (vg_name 3 sc_law.nd)
    (vb_cons (vs_weak (Rm := [(0, 9)]) (vs_set 4 sc_law.nd (ve_call [2] [] hc G_l_named (hr.mono (by decide)) (by rfl) O_l_named.m O_l_named.F.kp O_l_named.b (vo_own 2 (vo_cons (ve_op_s op_add ps_add ve_int (ve_call [2] [] hc G_l_pour (hr.mono (by decide)) (by rfl) O_l_pour.m O_l_pour.F.kp O_l_pour.b (vo_own 2 (vo_cons (ve_ix_g ix_q pg_ix (ve_lst (va_cons ve_int (va_cons ve_int (va_cons ve_int va_nil)))) (ve_call [2] [] hc G_l_pour (hr.mono (by decide)) (by rfl) O_l_pour.m O_l_pour.F.kp O_l_pour.b (vo_own 2 (vo_cons ve_int vo_nil)))) vo_nil)))) vo_nil)))))
    (vb_cons (vs_weak (Rm := [(0, 9)]) (vs_set 5 sc_law.nd (ve_call [2] [] hc G_l_asks (hr.mono (by decide)) (by rfl) O_l_asks.m O_l_asks.F.kp O_l_asks.b (vo_own 2 (vo_cons (ve_name 4) (vo_cons (ve_flat (ve_name 3)) vo_nil))))))
    (vb_cons (vs_weak (Rm := [(0, 9)]) (vs_set 6 sc_law.nd (ve_call [2] [] hc G_l_graced (hr.mono (by decide)) (by rfl) O_l_graced.m O_l_graced.F.kp O_l_graced.b (vo_own 2 (vo_cons (ve_name 4) vo_nil)))))
    (vb_one (vs_weak (Rm := [(0, 9)]) (vs_for (fl := true) 12 [(0, 9)] hp rfl (vi_range1 (by rfl) T.n_range (va_cons (ve_op_s op_sub ps_sub ve_int (ve_op_s op_mulW ps_mul ve_int (ve_callT_s call_int1 ps_int (by rfl) T.n_int (by decide +kernel) (va_cons (ve_cmp op_gt ps_gt (ve_callB_s call_lenX ps_len (by rfl) T.n_len (by decide +kernel) (va_cons (ve_name 5) va_nil)) ve_int) va_nil)))) va_nil)) (vg_name 7 sc_law.nd)
    (vb_cons (vs_weak (Rm := [(0, 9)]) (vs_set 8 sc_law.nd (ve_ix_g ix_q pg_ix (ve_op_n op_cat pn_cat (ve_name 4) (ve_lst (va_cons ve_str va_nil))) (ve_call [2] [] hc G_l_pour (hr.mono (by decide)) (by rfl) O_l_pour.m O_l_pour.F.kp O_l_pour.b (vo_own 2 (vo_cons (ve_op_s op_add ps_add (ve_callB_s call_lenX ps_len (by rfl) T.n_len (by decide +kernel) (va_cons (ve_name 4) va_nil)) ve_int) vo_nil))))))
    (vb_cons (vs_weak (Rm := [(0, 9)]) (vs_if (R1 := [(0, 9)]) (R2 := [(0, 9)]) (vt_not (vt_val (ve_call [2] [] hc G_l_right (hr.mono (by decide)) (by rfl) O_l_right.m O_l_right.F.kp O_l_right.b (vo_own 2 (vo_cons (ve_name 5) (vo_cons (ve_name 6) (vo_cons (ve_flat (ve_name 8)) vo_nil)))))))
    vb_never
    (vb_weak (Rm := [(0, 9)]) vb_nil)))
    (vb_one (vs_weak (Rm := [(0, 9)]) (vs_if (R1 := [(0, 9)]) (R2 := [(0, 9)]) (vt_w (vw_and (vt_cmp op_eq ps_eqS (ve_name 7) ve_int) (vw_and1 (vt_cmp (op_neD (u64 hr)) ps_neD (ve_name 5) (ve_lst va_nil)))))
    (vb_weak (Rm := [(0, 9)]) (vb_cons (vs_expr (ve_mutL 5 [] PySem.F.slot_list_append PySem.F.type_list_append mt_append pm_append (va_cons (ve_flat (ve_mutL 5 [] PySem.F.slot_list_pop PySem.F.type_list_pop mt_popAt pm_popAt (va_cons ve_int va_nil))) va_nil)))
    (vb_one (vs_putK 6 [] (hu1 hr) (ve_op_s op_sub ps_sub (ve_call [2] [] hc G_l_pour (hr.mono (by decide)) (by rfl) O_l_pour.m O_l_pour.F.kp O_l_pour.b (vo_own 2 (vo_cons ve_int vo_nil))) ve_int) (ve_ix_g ix_q pg_ix (ve_name 4) ve_int)))))
    (vb_weak (Rm := [(0, 9)]) vb_nil))))))))))))))))))
    (vb_cons (vs_weak (Rm := [(0, 9)]) (vs_if (R1 := [(0, 9)]) (R2 := [(0, 9)]) (vt_not (vt_val (ve_call0 hc G_l_full_right (hr.mono (by decide)) (by rfl) O_l_full_right.m O_l_full_right.F.kp O_l_full_right.b)))
    vb_never
    (vb_weak (Rm := [(0, 9)]) vb_nil)))
    (vb_cons (vs_weak (Rm := [(0, 9)]) (vs_if (R1 := [(0, 9)]) (R2 := [(0, 9)]) (vt_cmp (op_neD (u64 hr)) ps_neD (ve_callK [some 0, some 1, some 2, none] [] [] hc G_put_in (hr.mono (by decide)) (by rfl) O_put_in.m O_put_in.F.kp O_put_in.kp_put_in_3 (vo_cons (ve_lst (va_cons (ve_tup (va_cons (ve_lst (va_cons ve_str va_nil)) (va_cons ve_int va_nil))) va_nil)) (vo_cons ve_int (vo_cons ve_str vo_nil))) vk_nil) (ve_tup (va_cons ve_non (va_cons (ve_lst va_nil) va_nil))))
    vb_never
    (vb_weak (Rm := [(0, 9)]) vb_nil)))
    (vb_one (vs_ret (ve_and (ve_cmp (op_eqD (u64 hr)) ps_eqD (ve_callK [some 0, some 1, some 2, none] [] [] hc G_put_in (hr.mono (by decide)) (by rfl) O_put_in.m O_put_in.F.kp O_put_in.kp_put_in_3 (vo_cons (ve_lst va_nil) (vo_cons ve_int (vo_cons ve_str vo_nil))) vk_nil) (ve_tup (va_cons ve_non (va_cons (ve_lst va_nil) va_nil)))) (ve_one (ve_cmp (op_eqD (u64 hr)) ps_eqD (ve_callK [some 0, some 1, some 2, none] [] [] hc G_put_in (hr.mono (by decide)) (by rfl) O_put_in.m O_put_in.F.kp O_put_in.kp_put_in_3 (vo_cons (ve_lst (va_cons ve_str (va_cons ve_str (va_cons ve_str va_nil)))) (vo_cons ve_int (vo_cons ve_str vo_nil))) vk_nil) (ve_tup (va_cons ve_non (va_cons (ve_lst (va_cons (ve_tup (va_cons ve_int (va_cons ve_int (va_cons ve_int va_nil)))) va_nil)) va_nil))))))))))))
end V48

set_option Elab.async false
set_option linter.all false
set_option maxRecDepth 100000
set_option maxHeartbeats 4000000
set_option exponentiation.threshold 20000
namespace VD
open PySem PySem.Spec L2 MC
open PyProof.Rows hiding St

def Ok {α : Type} (o : Option (α × Ev)) (P : α → Ev → Prop) : Prop := ∃ a e, o = some (a, e) ∧ P a e
def OkO (o : Option Out) (Q : Out → Prop) : Prop := ∃ x, o = some x ∧ Q x
def OkP {α : Type} (o : Option α) (P : α → Prop) : Prop := ∃ a, o = some a ∧ P a
section
variable {α : Type} {e : Ev} {P : D → Ev → Prop} {PB : Bool → Ev → Prop} {PL : List D → Ev → Prop} {Q Q' : Out → Prop} {da db dc : Ev → Option (D × Ev)} {dt du : Ev → Option (Bool × Ev)} {ds : Ev → Option (List D × Ev)} {sa sb : Ev → Option Out} {PD : D → Prop}
theorem Ok.mono {o : Option (α × Ev)} {P P' : α → Ev → Prop} (h : Ok o P) (k : ∀ a e, P a e → P' a e) : Ok o P' := let ⟨a, e, h1, h2⟩ := h; ⟨a, e, h1, k a e h2⟩
theorem OkO.mono {o : Option Out} (h : OkO o Q) (k : ∀ x, Q x → Q' x) : OkO o Q' := let ⟨a, h1, h2⟩ := h; ⟨a, h1, k a h2⟩
theorem OkP.mono {o : Option α} {P P' : α → Prop} (h : OkP o P) (k : ∀ x, P x → P' x) : OkP o P' := let ⟨a, h1, h2⟩ := h; ⟨a, h1, k a h2⟩
theorem OkP.eq {o : Option α} {a : α} (h : OkP o fun x => x = a) : o = some a := let ⟨b, h1, h2⟩ := h; by rw [h1, h2]
theorem okp_of {o : Option α} {a : α} {P : α → Prop} (e : o = some a) (h : P a) : OkP o P := ⟨a, e, h⟩
theorem ok_var {i : Nat} {d : D} (h : e[i]? = some (some d)) (p : P d e) : Ok (dVar i e) P := ⟨d, e, by unfold dVar; rw [h], p⟩
theorem ok_c {d : D} (p : P d e) : Ok (dC d e) P := ⟨d, e, rfl, p⟩
theorem ok_d2 {p : D → D → Option D} (h : Ok (da e) fun x e1 => Ok (db e1) fun y e2 => OkP (p x y) fun z => P z e2) : Ok (d2 p da db e) P := by
  obtain ⟨x, e1, h1, y, e2, h2, z, h3, h4⟩ := h
  exact ⟨z, e2, by unfold d2; rw [h1]; simp only []; rw [h2]; simp only []; rw [h3], h4⟩
theorem ok_d1 {p : D → Option D} (h : Ok (da e) fun x e1 => OkP (p x) fun z => P z e1) : Ok (d1 p da e) P := by
  obtain ⟨x, e1, h1, z, h3, h4⟩ := h
  exact ⟨z, e1, by unfold d1; rw [h1]; simp only []; rw [h3], h4⟩
theorem ok_dL {p : List D → Option D} (h : Ok (ds e) fun x e1 => OkP (p x) fun z => P z e1) : Ok (dL p ds e) P := by
  obtain ⟨x, e1, h1, z, h3, h4⟩ := h
  exact ⟨z, e1, by unfold dL; rw [h1]; simp only []; rw [h3], h4⟩
theorem ok_nil (p : PL [] e) : Ok (aNil e) PL := ⟨[], e, rfl, p⟩
theorem ok_cons (h : Ok (da e) fun x e1 => Ok (ds e1) fun xs e2 => PL (x :: xs) e2) : Ok (aCons da ds e) PL := by
  obtain ⟨x, e1, h1, xs, e2, h2, h3⟩ := h
  exact ⟨x :: xs, e2, by unfold aCons; rw [h1]; simp only []; rw [h2], h3⟩
theorem ok_own {i : Nat} {d0 : D} (h0 : e[i]? = some (some d0)) (h : Ok (ds e) fun xs e1 => ∃ d, e1[i]? = some (some d) ∧ PL (d :: xs) e1) : Ok (aOwn i ds e) PL := by
  obtain ⟨xs, e1, h1, d, h2, h3⟩ := h
  exact ⟨d :: xs, e1, by unfold aOwn; rw [h0]; simp only []; rw [h1]; simp only []; rw [h2], h3⟩
theorem ok_fl (h : Ok (da e) fun x e1 => x.flat = true ∧ P x e1) : Ok (dFl da e) P := by
  obtain ⟨x, e1, h1, h2, h3⟩ := h
  exact ⟨x, e1, by unfold dFl; rw [h1]; simp only []; rw [if_pos h2], h3⟩
theorem ok_fe (h : Ok (da e) fun x e1 => x.flatIn = true ∧ P x e1) : Ok (dFe da e) P := by
  obtain ⟨x, e1, h1, h2, h3⟩ := h
  exact ⟨x, e1, by unfold dFe; rw [h1]; simp only []; rw [if_pos h2], h3⟩
theorem ok_bool (h : Ok (da e) fun x e1 => ∃ b, x = .bl b ∧ PB b e1) : Ok (dBool da e) PB := by
  obtain ⟨x, e1, h1, b, rfl, h3⟩ := h
  exact ⟨b, e1, by unfold dBool; rw [h1], h3⟩
theorem ok_tnot (h : Ok (dt e) fun b e1 => PB (!b) e1) : Ok (tNotD dt e) PB := by
  obtain ⟨x, e1, h1, h3⟩ := h
  exact ⟨!x, e1, by unfold tNotD; rw [h1], h3⟩
theorem ok_tand (h : Ok (dt e) fun b e1 => (b = true → Ok (du e1) PB) ∧ (b = false → PB false e1)) : Ok (tAndD dt du e) PB := by
  obtain ⟨b, e1, h1, h2, h3⟩ := h
  cases b with
  | true => obtain ⟨c, e2, h4, h5⟩ := h2 rfl; exact ⟨c, e2, by unfold tAndD; rw [h1]; simp only []; rw [h4], h5⟩
  | false => exact ⟨false, e1, by unfold tAndD; rw [h1], h3 rfl⟩
theorem ok_tor (h : Ok (dt e) fun b e1 => (b = true → PB true e1) ∧ (b = false → Ok (du e1) PB)) : Ok (tOrD dt du e) PB := by
  obtain ⟨b, e1, h1, h2, h3⟩ := h
  cases b with
  | false => obtain ⟨c, e2, h4, h5⟩ := h3 rfl; exact ⟨c, e2, by unfold tOrD; rw [h1]; simp only []; rw [h4], h5⟩
  | true => exact ⟨true, e1, by unfold tOrD; rw [h1], h2 rfl⟩
theorem ok_vnot (h : Ok (da e) fun x e1 => ∃ b, x = .bl b ∧ P (.bl !b) e1) : Ok (vNotD da e) P := by
  obtain ⟨x, e1, h1, b, rfl, h3⟩ := h
  exact ⟨_, e1, by unfold vNotD; rw [h1], h3⟩
theorem ok_vand (h : Ok (da e) fun x e1 => ∃ b, x = .bl b ∧ (b = true → Ok (db e1) P) ∧ (b = false → P (.bl false) e1)) : Ok (vAndD da db e) P := by
  obtain ⟨x, e1, h1, b, rfl, h2, h3⟩ := h
  cases b with
  | true => obtain ⟨c, e2, h4, h5⟩ := h2 rfl; exact ⟨c, e2, by unfold vAndD; rw [h1]; simp only []; rw [h4], h5⟩
  | false => exact ⟨_, e1, by unfold vAndD; rw [h1], h3 rfl⟩
theorem ok_vor (h : Ok (da e) fun x e1 => ∃ b, x = .bl b ∧ (b = true → P (.bl true) e1) ∧ (b = false → Ok (db e1) P)) : Ok (vOrD da db e) P := by
  obtain ⟨x, e1, h1, b, rfl, h2, h3⟩ := h
  cases b with
  | false => obtain ⟨c, e2, h4, h5⟩ := h3 rfl; exact ⟨c, e2, by unfold vOrD; rw [h1]; simp only []; rw [h4], h5⟩
  | true => exact ⟨_, e1, by unfold vOrD; rw [h1], h2 rfl⟩
theorem ok_if (h : Ok (dt e) fun b e1 => (b = true → Ok (da e1) P) ∧ (b = false → Ok (db e1) P)) : Ok (dIf dt da db e) P := by
  obtain ⟨b, e1, h1, h2, h3⟩ := h
  cases b with
  | true => obtain ⟨c, e2, h4, h5⟩ := h2 rfl; exact ⟨c, e2, by unfold dIf; rw [h1]; simp only []; rw [h4], h5⟩
  | false => obtain ⟨c, e2, h4, h5⟩ := h3 rfl; exact ⟨c, e2, by unfold dIf; rw [h1]; simp only []; rw [h4], h5⟩
theorem ok_tup (h : Ok (ds e) fun xs e1 => noRo xs = true ∧ xs.length ≤ sizeLine ∧ P (.tup xs) e1) : Ok (dTup ds e) P := by
  obtain ⟨xs, e1, h1, h2, h3, h4⟩ := h
  exact ⟨_, e1, by unfold dTup; rw [h1]; simp only []; rw [if_pos (by rw [h2, decide_eq_true h3]; rfl)], h4⟩
theorem ok_lst (h : Ok (ds e) fun xs e1 => noRo xs = true ∧ xs.length ≤ sizeLine ∧ P (.lst xs) e1) : Ok (dLst ds e) P := by
  obtain ⟨xs, e1, h1, h2, h3, h4⟩ := h
  exact ⟨_, e1, by unfold dLst; rw [h1]; simp only []; rw [if_pos (by rw [h2, decide_eq_true h3]; rfl)], h4⟩
theorem ok_call {G : List D → Option (D × List D)} {xs ks : List Nat} (h : Ok (ds e) fun vs e1 => OkP (G vs) fun r => P r.1 (putOuts xs r.2 (killL ks e1))) : Ok (dCall G xs ks ds e) P := by
  obtain ⟨vs, e1, h1, r, h2, h3⟩ := h
  exact ⟨r.1, _, by unfold dCall; rw [h1]; simp only []; rw [h2], h3⟩
theorem ok_pl {pl : List (Option Nat)} {dk : Ev → Option (List D × Ev)} (h : Ok (ds e) fun xs e1 => Ok (dk e1) fun ys e2 => PL (plan pl (xs ++ ys) .non) e2) : Ok (aPl pl ds dk e) PL := by
  obtain ⟨xs, e1, h1, ys, e2, h2, h3⟩ := h
  exact ⟨_, e2, by unfold aPl; rw [h1]; simp only []; rw [h2], h3⟩
theorem ok_mutL {p : List D → List D → Option (D × List D)} {x : Nat} {ks : List Nat} {ys : List D} (h0 : e[x]? = some (some (.lst ys))) (h : Ok (ds e) fun vs e1 => ∃ xs, e1[x]? = some (some (.lst xs)) ∧ OkP (p xs vs) fun r => P r.1 ((killL ks e1).set x (some (.lst r.2)))) : Ok (dMutL p x ks ds e) P := by
  obtain ⟨vs, e1, h1, xs, h2, r, h3, h4⟩ := h
  exact ⟨r.1, _, by unfold dMutL dAftL; rw [h0]; simp only []; rw [h1]; simp only [Option.bind]; rw [h2]; simp only []; rw [h3], h4⟩
theorem ok_get2 (h : Ok (da e) fun x e1 => ∃ es, x = .dct es ∧ Ok (db e1) fun k e2 => Ok (dc e2) fun z e3 => ∃ k', keyD k = some k' ∧ P ((lookD es k').getD z) e3) : Ok (dGet2 da db dc e) P := by
  obtain ⟨x, e1, h1, es, rfl, k, e2, h2, z, e3, h3, k', h4, h5⟩ := h
  exact ⟨_, e3, by unfold dGet2; rw [h1]; simp only []; rw [h2]; simp only []; rw [h3]; simp only []; rw [h4], h5⟩
theorem ok_get1 (h : Ok (da e) fun x e1 => ∃ es, x = .dct es ∧ Ok (db e1) fun k e2 => ∃ k', keyD k = some k' ∧ P ((lookD es k').getD .non) e2) : Ok (dGet1 da db e) P := by
  obtain ⟨x, e1, h1, es, rfl, k, e2, h2, k', h4, h5⟩ := h
  exact ⟨_, e2, by unfold dGet1; rw [h1]; simp only []; rw [h2]; simp only []; rw [h4], h5⟩
theorem ok_m {ok : D → Bool} {p : D → List D → Option D} (h : Ok (da e) fun x e1 => ok x = true ∧ Ok (ds e1) fun xs e2 => OkP (p x xs) fun z => P z e2) : Ok (dM ok p da ds e) P := by
  obtain ⟨x, e1, h1, h0, xs, e2, h2, z, h3, h4⟩ := h
  exact ⟨z, e2, by unfold dM; rw [h1]; simp only []; rw [if_pos h0, h2]; simp only []; rw [h3], h4⟩
theorem ok_ono {PO : Option Int → Ev → Prop} (p : PO none e) : Ok (oNo e) PO := ⟨none, e, rfl, p⟩
theorem ok_oso {PO : Option Int → Ev → Prop} (h : Ok (da e) fun x e1 => ∃ i, x = .int i ∧ PO (some i) e1) : Ok (oSo da e) PO := by
  obtain ⟨x, e1, h1, i, rfl, h2⟩ := h
  exact ⟨some i, e1, by unfold oSo; rw [h1], h2⟩
theorem ok_sl {p : D → Option Int → Option Int → Option D} {dl dh : Ev → Option (Option Int × Ev)} (h : Ok (da e) fun x e1 => Ok (dl e1) fun l e2 => Ok (dh e2) fun u e3 => OkP (p x l u) fun z => P z e3) : Ok (dSl p da dl dh e) P := by
  obtain ⟨x, e1, h1, l, e2, h2, u, e3, h3, z, h4, h5⟩ := h
  exact ⟨z, e3, by unfold dSl; rw [h1]; simp only []; rw [h2]; simp only []; rw [h3]; simp only []; rw [h4], h5⟩
theorem ok_chain {p p' : D → D → Option D} (h : Ok (da e) fun x e1 => Ok (db e1) fun y e2 => OkP (p x y) fun k => ∃ b, k = .bl b ∧ (b = true → Ok (dc e2) fun z e3 => OkP (p' y z) fun w => P w e3) ∧ (b = false → P (.bl false) e2)) : Ok (dChain p p' da db dc e) P := by
  obtain ⟨x, e1, h1, y, e2, h2, k, h3, b, rfl, h4, h5⟩ := h
  cases b with
  | true =>
    obtain ⟨z, e3, h6, w, h7, h8⟩ := h4 rfl
    exact ⟨w, e3, by unfold dChain; rw [h1]; simp only []; rw [h2]; simp only []; rw [h3]; simp only []; rw [h6]; simp only []; rw [h7], h8⟩
  | false => exact ⟨_, e2, by unfold dChain; rw [h1]; simp only []; rw [h2]; simp only []; rw [h3], h5 rfl⟩
theorem ok_tru (h : Ok (da e) fun x e1 => OkP x.truth fun b => PB b e1) : Ok (tTru da e) PB := by
  obtain ⟨x, e1, h1, b, h2, h3⟩ := h
  exact ⟨b, e1, by unfold tTru; rw [h1]; simp only []; rw [h2], h3⟩
theorem oko_nil (q : Q (.nx e)) : OkO (sNil e) Q := ⟨_, rfl, q⟩
def seqK (sb : Ev → Option Out) (Q : Out → Prop) : Out → Prop
  | .nx e => OkO (sb e) Q
  | o => Q o
theorem oko_seq (h : OkO (sa e) (seqK sb Q)) : OkO (sSeq sa sb e) Q := by
  obtain ⟨x, h1, h2⟩ := h
  cases x with
  | nx e1 =>
    obtain ⟨y, h3, h4⟩ := h2
    exact ⟨y, by unfold sSeq; rw [h1]; exact h3, h4⟩
  | rt d e1 => exact ⟨_, by unfold sSeq; rw [h1], h2⟩
  | bk e1 => exact ⟨_, by unfold sSeq; rw [h1], h2⟩
  | ct e1 => exact ⟨_, by unfold sSeq; rw [h1], h2⟩
theorem oko_do (h : Ok (da e) fun _ e1 => Q (.nx e1)) : OkO (sDo da e) Q := by
  obtain ⟨x, e1, h1, h2⟩ := h
  exact ⟨_, by unfold sDo; rw [h1], h2⟩
theorem oko_set {i : Nat} (h : Ok (da e) fun x e1 => Q (.nx (e1.set i (some x)))) : OkO (sSet i da e) Q := by
  obtain ⟨x, e1, h1, h2⟩ := h
  exact ⟨_, by unfold sSet; rw [h1], h2⟩
theorem oko_if (h : Ok (dt e) fun b e1 => (b = true → OkO (sa e1) Q) ∧ (b = false → OkO (sb e1) Q)) : OkO (sIf dt sa sb e) Q := by
  obtain ⟨b, e1, h1, h2, h3⟩ := h
  cases b with
  | true => obtain ⟨y, h4, h5⟩ := h2 rfl; exact ⟨y, by unfold sIf; rw [h1]; exact h4, h5⟩
  | false => obtain ⟨y, h4, h5⟩ := h3 rfl; exact ⟨y, by unfold sIf; rw [h1]; exact h4, h5⟩
theorem oko_rt (h : Ok (da e) fun x e1 => Q (.rt x e1)) : OkO (sRt da e) Q := by
  obtain ⟨x, e1, h1, h2⟩ := h
  exact ⟨_, by unfold sRt; rw [h1], h2⟩
theorem oko_rtN (q : Q (.rt .non e)) : OkO (sRtN e) Q := ⟨_, rfl, q⟩
theorem oko_bk (q : Q (.bk e)) : OkO (sBk e) Q := ⟨_, rfl, q⟩
theorem oko_ct (q : Q (.ct e)) : OkO (sCt e) Q := ⟨_, rfl, q⟩
theorem oko_aug {p : D → D → Option D} {i : Nat} {x : D} (h0 : e[i]? = some (some x)) (h : Ok (da e) fun y e1 => OkP (p x y) fun z => Q (.nx (e1.set i (some z)))) : OkO (sAug p i da e) Q := by
  obtain ⟨y, e1, h1, z, h2, h3⟩ := h
  exact ⟨_, by unfold sAug; rw [h0]; simp only []; rw [h1]; simp only []; rw [h2], h3⟩
theorem oko_par {i j : Nat} (h : Ok (da e) fun x e1 => Ok (db e1) fun y e2 => Q (.nx ((e2.set i (some x)).set j (some y)))) : OkO (sPar i j da db e) Q := by
  obtain ⟨x, e1, h1, y, e2, h2, h3⟩ := h
  exact ⟨_, by unfold sPar; rw [h1]; simp only []; rw [h2], h3⟩
theorem oko_asg {bd : D → Ev → Option Ev} (h : Ok (da e) fun x e1 => ∃ e2, bd x e1 = some e2 ∧ Q (.nx e2)) : OkO (sAsg da bd e) Q := by
  obtain ⟨x, e1, h1, e2, h2, h3⟩ := h
  exact ⟨_, by unfold sAsg; rw [h1]; simp only []; rw [h2]; rfl, h3⟩
theorem oko_putL {x : Nat} {ks : List Nat} (h : Ok (da e) fun v e1 => ∃ ys, e1[x]? = some (some (.lst ys)) ∧ Ok (db e1) fun k e2 => ∃ i xs j, k = .int i ∧ e2[x]? = some (some (.lst xs)) ∧ ixN xs.length i = some j ∧ isRo v = false ∧ Q (.nx ((killL ks e2).set x (some (.lst (xs.set j v)))))) : OkO (sPutL x ks da db e) Q := by
  obtain ⟨v, e1, h1, ys, h2, k, e2, h3, i, xs, j, rfl, h4, h5, h6, h7⟩ := h
  exact ⟨_, by unfold sPutL; rw [h1]; simp only []; rw [h2]; simp only []; rw [h3]; simp only []; rw [h4]; simp only []; rw [h5]; simp only []; rw [if_neg (by rw [h6]; exact Bool.false_ne_true)], h7⟩
theorem oko_putK {x : Nat} {ks : List Nat} (h : Ok (da e) fun v e1 => ∃ ys, e1[x]? = some (some (.dct ys)) ∧ Ok (db e1) fun k e2 => ∃ k' es, keyD k = some k' ∧ e2[x]? = some (some (.dct es)) ∧ isRo v = false ∧ es.length < sizeLine ∧ Q (.nx ((killL ks e2).set x (some (.dct (putD es k' v)))))) : OkO (sPutK x ks da db e) Q := by
  obtain ⟨v, e1, h1, ys, h2, k, e2, h3, k', es, h4, h5, h6, h7, h8⟩ := h
  exact ⟨_, by unfold sPutK; rw [h1]; simp only []; rw [h2]; simp only []; rw [h3]; simp only []; rw [h5, h4]; simp only []; rw [if_neg (by rw [h6, decide_eq_true h7]; exact Bool.false_ne_true)], h8⟩
theorem oko_appS {x : Nat} {ks : List Nat} {ys : List D} (h0 : e[x]? = some (some (.lst ys))) (h : Ok (da e) fun v e1 => ∃ xs, e1[x]? = some (some (.lst xs)) ∧ isRo v = false ∧ xs.length < sizeLine ∧ Q (.nx ((killL ks e1).set x (some (.lst (xs ++ [v])))))) : OkO (sAppS x ks da e) Q := by
  obtain ⟨v, e1, h1, xs, h2, h3, h4, h5⟩ := h
  exact ⟨_, by unfold sAppS; rw [h0]; simp only []; rw [h1]; simp only []; rw [h2]; simp only []; rw [if_pos (by rw [h3, decide_eq_true h4]; rfl)], h5⟩
def endK (mu : List Nat) (P : D → List D → Prop) : Out → Prop
  | .rt d e => ∃ o, outsOf mu e = some o ∧ P d o
  | .nx e => ∃ o, outsOf mu e = some o ∧ P .non o
  | _ => False
theorem okp_fn {nl : Nat} {mu : List Nat} {body : Ev → Option Out} {xs : List D} {P : D → List D → Prop} (h : OkO (body (start0 nl xs)) (endK mu P)) : OkP (dFn nl mu body xs) fun r => P r.1 r.2 := by
  obtain ⟨o, h1, h2⟩ := h
  cases o with
  | rt d e => obtain ⟨os, h3, h4⟩ := h2; exact ⟨(d, os), by unfold dFn; rw [h1]; simp only []; rw [h3]; rfl, h4⟩
  | nx e => obtain ⟨os, h3, h4⟩ := h2; exact ⟨(.non, os), by unfold dFn; rw [h1]; simp only []; rw [h3]; rfl, h4⟩
  | bk e => exact h2.elim
  | ct e => exact h2.elim
theorem okl_for {bd : D → Ev → Option Ev} {body : Ev → Option Out} (I : Nat → Ev → Prop) : ∀ (items : List D) (n : Nat) (e : Ev), I n e →
    (∀ i d e, items[i]? = some d → I (n + i) e → ∃ e1, bd d e = some e1 ∧ OkO (body e1) fun o => match o with | .nx e2 => I (n + i + 1) e2 | .ct e2 => I (n + i + 1) e2 | .bk e2 => Q (.nx e2) | .rt r e2 => Q (.rt r e2)) →
    (∀ e, I (n + items.length) e → Q (.nx e)) → OkO (forL bd body items e) Q
  | [], n, e, h0, _, hd => ⟨_, rfl, hd e h0⟩
  | d :: ds, n, e, h0, hs, hd => by
    obtain ⟨e1, h1, o, h2, h3⟩ := hs 0 d e rfl h0
    have rec0 : ∀ e2, I (n + 0 + 1) e2 → OkO (forL bd body ds e2) Q := fun e2 h => okl_for I ds (n + 1) e2 (by simpa using h) (fun i d e hi he => by
      have := hs (i + 1) d e (by simpa using hi) (by rw [show n + (i + 1) = n + 1 + i by omega]; exact he)
      simpa [show n + (i + 1) = n + 1 + i by omega] using this) fun e he => hd e (by rw [List.length_cons, show n + (ds.length + 1) = n + 1 + ds.length by omega]; exact he)
    cases o with
    | nx e2 => obtain ⟨y, h4, h5⟩ := rec0 e2 h3; exact ⟨y, by unfold forL; rw [h1]; simp only []; rw [h2]; exact h4, h5⟩
    | ct e2 => obtain ⟨y, h4, h5⟩ := rec0 e2 h3; exact ⟨y, by unfold forL; rw [h1]; simp only []; rw [h2]; exact h4, h5⟩
    | bk e2 => exact ⟨_, by unfold forL; rw [h1]; simp only []; rw [h2], h3⟩
    | rt r e2 => exact ⟨_, by unfold forL; rw [h1]; simp only []; rw [h2], h3⟩
theorem oko_for {di : Ev → Option (List D × Ev)} {bd : D → Ev → Option Ev} {body : Ev → Option Out} (h : Ok (di e) fun items e1 => OkO (forL bd body items e1) Q) : OkO (sFor di bd body e) Q := by
  obtain ⟨items, e1, h1, o, h2, h3⟩ := h
  exact ⟨o, by unfold sFor; rw [h1]; exact h2, h3⟩
theorem okp_lc {vs : List Nat} {bd : D → Ev → Option Ev} (I : Nat → List D → Ev → Prop) : ∀ (items : List D) (n : Nat) (acc : List D) (e : Ev), I n acc e →
    (∀ i d acc e, items[i]? = some d → I (n + i) acc e → ∃ e1, bd d e = some e1 ∧ Ok (dt e1) fun b e2 => (b = true → Ok (da e2) fun y e3 => isRo y = false ∧ I (n + i + 1) (acc ++ [y]) (wipeE e3 vs)) ∧ (b = false → I (n + i + 1) acc (wipeE e2 vs))) →
    Ok (goLc vs bd dt da items e) fun ys e' => I (n + items.length) (acc ++ ys) e'
  | [], n, acc, e, h0, _ => ⟨[], e, rfl, by simpa using h0⟩
  | d :: ds, n, acc, e, h0, hs => by
    obtain ⟨e1, h1, b, e2, h2, h3, h4⟩ := hs 0 d acc e rfl h0
    have rec0 : ∀ acc e2, I (n + 0 + 1) acc e2 → Ok (goLc vs bd dt da ds e2) fun ys e' => I (n + 1 + ds.length) (acc ++ ys) e' := fun acc e2 h => okp_lc I ds (n + 1) acc e2 (by simpa using h) fun i d acc e hi he => by
      have := hs (i + 1) d acc e (by simpa using hi) (by rw [show n + (i + 1) = n + 1 + i by omega]; exact he)
      simpa [show n + (i + 1) = n + 1 + i by omega] using this
    cases b with
    | true =>
      obtain ⟨y, e3, h5, h6, h7⟩ := h3 rfl
      obtain ⟨ys, e4, h8, h9⟩ := rec0 _ _ h7
      refine ⟨y :: ys, e4, ?_, ?_⟩
      · unfold goLc; rw [h1]; simp only []; rw [h2]; simp only []; rw [h5]; simp only []; rw [if_neg (by rw [h6]; exact Bool.false_ne_true), h8]
      · rw [List.length_cons, show n + (ds.length + 1) = n + 1 + ds.length by omega]; simpa using h9
    | false =>
      obtain ⟨ys, e4, h8, h9⟩ := rec0 _ _ (h4 rfl)
      refine ⟨ys, e4, ?_, ?_⟩
      · unfold goLc; rw [h1]; simp only []; rw [h2]; simp only []; rw [h8]
      · rw [List.length_cons, show n + (ds.length + 1) = n + 1 + ds.length by omega]; exact h9
theorem ok_lc {vs : List Nat} {di : Ev → Option (List D × Ev)} {bd : D → Ev → Option Ev} (h : Ok (di e) fun items e1 => Ok (goLc vs bd dt da items (wipeE e1 vs)) fun ys e2 => ys.length ≤ sizeLine ∧ P (.lst ys) e2) : Ok (dLc vs di bd dt da e) P := by
  obtain ⟨items, e1, h1, ys, e2, h2, h3, h4⟩ := h
  exact ⟨_, e2, by unfold dLc; rw [h1]; simp only []; rw [h2]; simp only []; rw [if_pos h3], h4⟩
theorem ok_yes (p : PB true e) : Ok (dYes e) PB := ⟨true, e, rfl, p⟩
theorem ok_ist {p : D → Option (List D)} (h : Ok (da e) fun x e1 => OkP (p x) fun xs => PL xs e1) : Ok (iSt p da e) PL := by
  obtain ⟨x, e1, h1, xs, h2, h3⟩ := h
  exact ⟨xs, e1, by unfold iSt; rw [h1]; simp only []; rw [h2], h3⟩
theorem ok_istL {p : List D → Option (List D)} (h : Ok (ds e) fun x e1 => OkP (p x) fun xs => PL xs e1) : Ok (iStL p ds e) PL := by
  obtain ⟨x, e1, h1, xs, h2, h3⟩ := h
  exact ⟨xs, e1, by unfold iStL; rw [h1]; simp only []; rw [h2], h3⟩
theorem ok_kd {x : Nat} {f : List (Key × D) → List D} {es : List (Key × D)} (h : e[x]? = some (some (.dct es))) (p : PL (f es) e) : Ok (dKd x f e) PL := ⟨f es, e, by unfold dKd; rw [h], p⟩
end
section
variable {P : D → Prop} {i j : Int} {x y : Str} {xs ys : List D}
theorem op_add' (p : P (.int (i + j))) : OkP (pAdd (.int i) (.int j)) P := ⟨_, by simp [pAdd, pI], p⟩
theorem op_sub' (p : P (.int (i - j))) : OkP (pSub (.int i) (.int j)) P := ⟨_, by simp [pSub, pI], p⟩
theorem op_mul' (h : mulB i j = true) (p : P (.int (i * j))) : OkP (pMul (.int i) (.int j)) P := ⟨_, by simp [pMul, pI, h], p⟩
theorem op_div' (h : divB i j = true) (p : P (.int (i / j))) : OkP (pDiv (.int i) (.int j)) P := ⟨_, by simp [pDiv, pI, h], p⟩
theorem op_mod' (h : 0 < j) (p : P (.int (i % j))) : OkP (pMod (.int i) (.int j)) P := ⟨_, by simp [pMod, pI, modB, h], p⟩
theorem op_pow' (h : powB i j = true) (p : P (.int (i ^ j.toNat))) : OkP (pPow (.int i) (.int j)) P := ⟨_, by simp [pPow, pI, h], p⟩
theorem op_lt' (p : P (.bl (decide (i < j)))) : OkP (pLt (.int i) (.int j)) P := ⟨_, rfl, p⟩
theorem op_le' (p : P (.bl (decide (i ≤ j)))) : OkP (pLe (.int i) (.int j)) P := ⟨_, rfl, p⟩
theorem op_gt' (p : P (.bl (decide (j < i)))) : OkP (pGt (.int i) (.int j)) P := ⟨_, rfl, p⟩
theorem op_ge' (p : P (.bl (decide (j ≤ i)))) : OkP (pGe (.int i) (.int j)) P := ⟨_, rfl, p⟩
theorem op_eqi (p : P (.bl (decide (i = j)))) : OkP (pEqS (.int i) (.int j)) P := ⟨_, rfl, p⟩
theorem op_nei (p : P (.bl (!decide (i = j)))) : OkP (pNeS (.int i) (.int j)) P := ⟨_, rfl, p⟩
theorem op_eqs (p : P (.bl (decide (x = y)))) : OkP (pEqS (.str x) (.str y)) P := ⟨_, rfl, p⟩
theorem op_nes (p : P (.bl (!decide (x = y)))) : OkP (pNeS (.str x) (.str y)) P := ⟨_, rfl, p⟩
theorem op_isn {d : D} (p : P (.bl (isNon d))) : OkP (pIsN d .non) P := ⟨_, rfl, p⟩
theorem op_isbi {b : Bool} (p : P (.bl false)) : OkP (pIsB (.int i) (.bl b)) P := ⟨_, rfl, p⟩
theorem op_min (p : P (.int (min i j))) : OkP (pMin2 [.int i, .int j]) P := ⟨_, rfl, p⟩
theorem op_max (p : P (.int (max i j))) : OkP (pMax2 [.int i, .int j]) P := ⟨_, rfl, p⟩
theorem op_lenL (p : P (.int xs.length)) : OkP (pLen [.lst xs]) P := ⟨_, rfl, p⟩
theorem op_lenT (p : P (.int xs.length)) : OkP (pLen [.tup xs]) P := ⟨_, rfl, p⟩
theorem op_lenR {ns : List Int} (p : P (.int ns.length)) : OkP (pLen [.ro ns]) P := ⟨_, rfl, p⟩
theorem op_lenS (h : x.length ≤ sizeLine) (p : P (.int x.length)) : OkP (pLen [.str x]) P := ⟨_, by simp [pLen, h], p⟩
theorem op_isi {T : String} {d : D} (h : isRo d = false) (p : P (.bl (tyIs T d.ty))) : OkP (pIsi T d) P := ⟨_, by simp [pIsi, h], p⟩
theorem op_lst (p : P (.lst xs)) : OkP (pList [.lst xs]) P := ⟨_, rfl, p⟩
theorem op_catL (h : xs.length + ys.length ≤ sizeLine) (p : P (.lst (xs ++ ys))) : OkP (pCat (.lst xs) (.lst ys)) P := ⟨_, by simp [pCat, h], p⟩
theorem op_din {neg : Bool} {d : D} {k : Key} {es : List (Key × D)} (h : keyD d = some k) (p : P (.bl (if neg then !(lookD es k).isSome else (lookD es k).isSome))) : OkP (pDIn neg d (.dct es)) P := ⟨_, by simp [pDIn, h], p⟩
theorem op_repr {d : D} (h : isRo d = false) (s : showOk d = true) (p : P (.str d.py.shown)) : OkP (pRepr [d]) P := ⟨_, by simp [pRepr, h, s], p⟩
theorem op_dgetk {d v : D} {k : Key} {es : List (Key × D)} (h : keyD d = some k) (h2 : lookD es k = some v) (p : P v) : OkP (pDGet (.dct es) d) P := ⟨_, by simp [pDGet, h, h2], p⟩
end
end VD

set_option Elab.async false
set_option linter.all false
set_option maxRecDepth 100000
set_option maxHeartbeats 4000000
set_option exponentiation.threshold 20000
namespace VD
open PySem PySem.Spec L2 MC
open PyProof.Rows hiding St

theorem seqK_nx {sb : Ev → Option Out} {Q : Out → Prop} {e : Ev} (h : OkO (sb e) Q) : seqK sb Q (.nx e) := h
theorem seqK_rt {sb : Ev → Option Out} {Q : Out → Prop} {e : Ev} {d : D} (h : Q (.rt d e)) : seqK sb Q (.rt d e) := h
theorem seqK_bk {sb : Ev → Option Out} {Q : Out → Prop} {e : Ev} (h : Q (.bk e)) : seqK sb Q (.bk e) := h
theorem seqK_ct {sb : Ev → Option Out} {Q : Out → Prop} {e : Ev} (h : Q (.ct e)) : seqK sb Q (.ct e) := h
def padE : Nat → List D → Ev
  | 0, _ => []
  | n + 1, [] => none :: padE n []
  | n + 1, d :: ds => some d :: padE n ds
theorem padE_eq : ∀ (n : Nat) (ds : List D), ds.length ≤ n → start0 n ds = padE n ds
  | 0, [], _ => rfl
  | 0, _ :: _, h => absurd h (by simp)
  | n + 1, [], _ => by
    have := padE_eq n [] (Nat.zero_le _)
    unfold start0 at this ⊢
    simp only [List.map_nil, List.nil_append, List.length_nil, Nat.sub_zero] at this ⊢
    rw [List.replicate_succ, this]; rfl
  | n + 1, d :: ds, h => by
    have := padE_eq n ds (by simpa using h)
    unfold start0 at this ⊢
    simp only [List.map_cons, List.cons_append, List.length_cons, Nat.add_sub_add_right]
    rw [this]; rfl
theorem okp_def {nl : Nat} {mu : List Nat} {body : Ev → Option Out} {xs : List D} {P : D × List D → Prop} (hl : xs.length ≤ nl) (h : OkO (body (padE nl xs)) (endK mu fun d o => P (d, o))) : OkP (dFn nl mu body xs) P := by
  rw [← padE_eq nl xs hl] at h
  exact okp_fn (P := fun d o => P (d, o)) h
theorem op_ixL {xs : List D} {i : Int} {d : D} {P : D → Prop} (h : atI xs i = some d) (p : P d) : OkP (pIx (.lst xs) (.int i)) P := ⟨d, h, p⟩
theorem atI_nat' {α : Type} {xs : List α} {i : Nat} {d : α} (h : xs[i]? = some d) : atI xs (i : Int) = some d := by
  have hl := (List.getElem?_eq_some_iff.mp h).1
  unfold atI ixN
  rw [if_pos (by omega), if_pos (by omega)]
  show xs[(i : Int).toNat]? = some d
  rw [Int.toNat_natCast]; exact h
theorem op_ix0 {x : D} {xs : List D} {P : D → Prop} (p : P x) : OkP (pIx (.lst (x :: xs)) (.int 0)) P := ⟨x, atI_nat' (i := 0) (xs := x :: xs) rfl, p⟩
theorem op_ixT {xs : List D} {i : Int} {d : D} {P : D → Prop} (h : atI xs i = some d) (p : P d) : OkP (pIx (.tup xs) (.int i)) P := ⟨d, h, p⟩
theorem ex_bl {b : Bool} {PB : Bool → Prop} (h : PB b) : ∃ b', D.bl b = D.bl b' ∧ PB b' := ⟨b, rfl, h⟩
theorem ex_int {i : Int} {PB : Int → Prop} (h : PB i) : ∃ b', D.int i = D.int b' ∧ PB b' := ⟨i, rfl, h⟩
theorem ex_dct {i : List (Key × D)} {PB : List (Key × D) → Prop} (h : PB i) : ∃ b', D.dct i = D.dct b' ∧ PB b' := ⟨i, rfl, h⟩
theorem br_t {b : Bool} {A B : Prop} (h : b = true) (p : A) : (b = true → A) ∧ (b = false → B) := ⟨fun _ => p, fun h' => absurd (h.symm.trans h') (by decide)⟩
theorem br_f {b : Bool} {A B : Prop} (h : b = false) (p : B) : (b = true → A) ∧ (b = false → B) := ⟨fun h' => absurd (h.symm.trans h') (by decide), fun _ => p⟩
def OwnAt (i : Nat) (e : Ev) (P : D → Prop) : Prop := ∃ d, e[i]? = some (some d) ∧ P d
def LstAt (i : Nat) (e : Ev) (P : List D → Prop) : Prop := ∃ xs, e[i]? = some (some (.lst xs)) ∧ P xs
def DctAt (i : Nat) (e : Ev) (P : List (Key × D) → Prop) : Prop := ∃ xs, e[i]? = some (some (.dct xs)) ∧ P xs
theorem own_at {i : Nat} {e : Ev} {P : D → Prop} {d : D} (h : e[i]? = some (some d)) (p : P d) : OwnAt i e P := ⟨d, h, p⟩
theorem lst_at {i : Nat} {e : Ev} {P : List D → Prop} {d : List D} (h : e[i]? = some (some (.lst d))) (p : P d) : LstAt i e P := ⟨d, h, p⟩
theorem dct_at {i : Nat} {e : Ev} {P : List (Key × D) → Prop} {d : List (Key × D)} (h : e[i]? = some (some (.dct d))) (p : P d) : DctAt i e P := ⟨d, h, p⟩
section
variable {e : Ev} {P : D → Ev → Prop} {PL : List D → Ev → Prop} {Q : Out → Prop} {da db : Ev → Option (D × Ev)} {ds : Ev → Option (List D × Ev)}
theorem ok_own2 {i : Nat} {d0 : D} (h0 : e[i]? = some (some d0)) (h : Ok (ds e) fun xs e1 => OwnAt i e1 fun d => PL (d :: xs) e1) : Ok (aOwn i ds e) PL := ok_own h0 h
theorem ok_mutL2 {p : List D → List D → Option (D × List D)} {x : Nat} {ks : List Nat} {ys : List D} (h0 : e[x]? = some (some (.lst ys))) (h : Ok (ds e) fun vs e1 => LstAt x e1 fun xs => OkP (p xs vs) fun r => P r.1 ((killL ks e1).set x (some (.lst r.2)))) : Ok (dMutL p x ks ds e) P := ok_mutL h0 h
theorem oko_appS2 {x : Nat} {ks : List Nat} {ys : List D} (h0 : e[x]? = some (some (.lst ys))) (h : Ok (da e) fun v e1 => LstAt x e1 fun xs => isRo v = false ∧ xs.length < sizeLine ∧ Q (.nx ((killL ks e1).set x (some (.lst (xs ++ [v])))))) : OkO (sAppS x ks da e) Q := oko_appS h0 h
theorem oko_putL2 {x : Nat} {ks : List Nat} (h : Ok (da e) fun v e1 => LstAt x e1 fun _ => Ok (db e1) fun k e2 => LstAt x e2 fun xs => ∃ i j, k = .int i ∧ ixN xs.length i = some j ∧ isRo v = false ∧ Q (.nx ((killL ks e2).set x (some (.lst (xs.set j v)))))) : OkO (sPutL x ks da db e) Q :=
  oko_putL (h.mono fun v e1 ⟨ys, h1, h2⟩ => ⟨ys, h1, h2.mono fun k e2 ⟨xs, h3, i, j, h4, h5, h6, h7⟩ => ⟨i, xs, j, h4, h3, h5, h6, h7⟩⟩)
theorem oko_putK2 {x : Nat} {ks : List Nat} (h : Ok (da e) fun v e1 => DctAt x e1 fun _ => Ok (db e1) fun k e2 => DctAt x e2 fun es => ∃ k', keyD k = some k' ∧ isRo v = false ∧ es.length < sizeLine ∧ Q (.nx ((killL ks e2).set x (some (.dct (putD es k' v)))))) : OkO (sPutK x ks da db e) Q :=
  oko_putK (h.mono fun v e1 ⟨ys, h1, h2⟩ => ⟨ys, h1, h2.mono fun k e2 ⟨xs, h3, i, h4, h5, h6, h7⟩ => ⟨i, xs, h4, h3, h5, h6, h7⟩⟩)
end
end VD
local macro_rules | `(tactic| walk_at "vd1") => `(tactic| first
  | with_reducible refine VD.oko_seq ?_
  | with_reducible refine VD.seqK_nx ?_
  | with_reducible refine VD.seqK_rt ?_
  | with_reducible refine VD.seqK_bk ?_
  | with_reducible refine VD.seqK_ct ?_
  | with_reducible refine VD.oko_set ?_
  | with_reducible refine VD.oko_do ?_
  | with_reducible refine VD.oko_rt ?_
  | with_reducible refine VD.oko_rtN ?_
  | with_reducible refine VD.oko_nil ?_
  | with_reducible refine VD.oko_bk ?_
  | with_reducible refine VD.oko_ct ?_
  | with_reducible refine VD.oko_if ?_
  | with_reducible refine VD.oko_par ?_
  | with_reducible refine VD.oko_asg ?_
  | with_reducible refine VD.oko_for ?_
  | with_reducible refine VD.oko_putL2 ?_
  | with_reducible refine VD.oko_putK2 ?_
  | with_reducible refine VD.ok_c ?_
  | with_reducible refine VD.ok_var (by with_unfolding_all rfl) ?_
  | with_reducible refine VD.ok_d2 ?_
  | with_reducible refine VD.ok_d1 ?_
  | with_reducible refine VD.ok_dL ?_
  | with_reducible refine VD.ok_nil ?_
  | with_reducible refine VD.ok_cons ?_
  | with_reducible refine VD.ok_fl ?_
  | with_reducible refine VD.ok_fe ?_
  | with_reducible refine VD.ok_bool ?_
  | with_reducible refine VD.ok_tnot ?_
  | with_reducible refine VD.ok_tand ?_
  | with_reducible refine VD.ok_tor ?_
  | with_reducible refine VD.ok_vnot ?_
  | with_reducible refine VD.ok_vand ?_
  | with_reducible refine VD.ok_vor ?_
  | with_reducible refine VD.ok_if ?_
  | with_reducible refine VD.ok_tup ?_
  | with_reducible refine VD.ok_lst ?_
  | with_reducible refine VD.ok_call ?_
  | with_reducible refine VD.ok_pl ?_
  | with_reducible refine VD.ok_get2 ?_
  | with_reducible refine VD.ok_get1 ?_
  | with_reducible refine VD.ok_m ?_
  | with_reducible refine VD.ok_ono ?_
  | with_reducible refine VD.ok_oso ?_
  | with_reducible refine VD.ok_sl ?_
  | with_reducible refine VD.ok_chain ?_
  | with_reducible refine VD.ok_tru ?_
  | with_reducible refine VD.ok_lc ?_
  | with_reducible refine VD.ok_yes ?_
  | with_reducible refine VD.ex_bl ?_
  | with_reducible refine VD.ex_int ?_
  | with_reducible refine VD.ex_dct ?_
  | with_reducible refine VD.ok_ist ?_
  | with_reducible refine VD.ok_istL ?_
  | with_reducible refine VD.ok_own2 (by with_unfolding_all rfl) ?_
  | with_reducible refine VD.ok_mutL2 (by with_unfolding_all rfl) ?_
  | with_reducible refine VD.own_at (by with_unfolding_all rfl) ?_
  | with_reducible refine VD.lst_at (by with_unfolding_all rfl) ?_
  | with_reducible refine VD.dct_at (by with_unfolding_all rfl) ?_
  | with_reducible refine VD.oko_aug (by with_unfolding_all rfl) ?_
  | with_reducible refine VD.oko_appS2 (by with_unfolding_all rfl) ?_
  | with_reducible refine VD.ok_kd (by with_unfolding_all rfl) ?_
  | with_reducible refine VD.op_add' ?_
  | with_reducible refine VD.op_sub' ?_
  | with_reducible refine VD.op_lt' ?_
  | with_reducible refine VD.op_le' ?_
  | with_reducible refine VD.op_gt' ?_
  | with_reducible refine VD.op_ge' ?_
  | with_reducible refine VD.op_eqi ?_
  | with_reducible refine VD.op_nei ?_
  | with_reducible refine VD.op_eqs ?_
  | with_reducible refine VD.op_nes ?_
  | with_reducible refine VD.op_isbi ?_
  | with_reducible refine VD.op_min ?_
  | with_reducible refine VD.op_max ?_
  | with_reducible refine VD.op_lenL ?_
  | with_reducible refine VD.op_lenT ?_
  | with_reducible refine VD.op_lenR ?_
  | with_reducible refine VD.op_lst ?_
  | with_reducible refine VD.op_ix0 ?_
  | with_reducible refine VD.op_ixL (by with_unfolding_all rfl) ?_
  | with_reducible refine VD.op_ixT (by with_unfolding_all rfl) ?_
  | dsimp only [List.set, VD.killL, VD.putOuts, VD.wipeE])
namespace VD
open PySem PySem.Spec L2 MC
open PyProof.Rows hiding St
end VD
local macro_rules | `(tactic| walk_at "vk") => `(tactic| first | refine VD.br_t (by rfl) ?_ | refine VD.br_f (by rfl) ?_)
namespace VD
open PySem PySem.Spec L2 MC
open PyProof.Rows hiding St
end VD
local macro_rules | `(tactic| walk_at "vb") => `(tactic| refine ⟨_, rfl, ?_⟩)
namespace VD
open PySem PySem.Spec L2 MC
open PyProof.Rows hiding St
end VD
local macro_rules | `(tactic| walk_at "vc") => `(tactic| try dsimp only [VD.putOuts, VD.killL, List.set, VD.wipeE])
namespace VD
open PySem PySem.Spec L2 MC
open PyProof.Rows hiding St
end VD
local macro_rules | `(tactic| walk_at "vs") => `(tactic| repeat (first | walk_at "vd1" | walk_at "vk"))
namespace VD
open PySem PySem.Spec L2 MC
open PyProof.Rows hiding St
end VD

set_option Elab.async false
set_option linter.all false
set_option maxRecDepth 100000
set_option maxHeartbeats 4000000
set_option exponentiation.threshold 20000
namespace VD
open PySem PySem.Spec L2 MC
open PyProof.Rows hiding St

mutual
def D.w : D → Nat
  | .lst xs => 1 + ws xs
  | .tup xs => 1 + ws xs
  | .dct kvs => 1 + wk kvs
  | _ => 1
def ws : List D → Nat
  | [] => 0
  | x :: xs => D.w x + ws xs
def wk : List (Key × D) → Nat
  | [] => 0
  | (_, x) :: xs => 1 + D.w x + wk xs
end
def keyS : Key → Bool
  | .inl i => decide (i.natAbs < 10 ^ 45)
  | .inr z => decide (z.length ≤ 100) && z.cps.toList.all fun c => decide (c < 16 ^ 8)
mutual
def D.okS : D → Bool
  | .int i => decide (i.natAbs < 10 ^ 45)
  | .str z => decide (z.length ≤ 100) && z.cps.toList.all fun c => decide (c < 16 ^ 8)
  | .lst xs => oksS xs
  | .tup xs => oksS xs
  | .dct kvs => okkS kvs
  | .ro _ => false
  | _ => true
def oksS : List D → Bool
  | [] => true
  | x :: xs => D.okS x && oksS xs
def okkS : List (Key × D) → Bool
  | [] => true
  | (k, x) :: xs => keyS k && D.okS x && okkS xs
end
mutual
def D.dp' : D → Nat
  | .lst xs => dps xs + 1
  | .tup xs => dps xs + 1
  | .dct kvs => dpk kvs + 1
  | _ => 0
def dps : List D → Nat
  | [] => 0
  | x :: xs => max (D.dp' x) (dps xs)
def dpk : List (Key × D) → Nat
  | [] => 0
  | (_, x) :: xs => max (D.dp' x) (dpk xs)
end
theorem keyP_show {k : Key} (h : keyS k = true) : (keyP k).showable = true ∧ (keyP k).leavesShort 50 = true ∧ (keyP k).weight ≤ 151 ∧ (keyP k).depth = 0 := by
  cases k with
  | inl i =>
    have h : i.natAbs < 10 ^ 45 := by simpa [keyS] using h
    simp only [keyP, PyData.showable, PyData.leavesShort, PyData.weight, PyData.depth, decide_eq_true_eq]
    refine ⟨PySem.Spec.log2_small (Nat.lt_of_lt_of_le h (by decide)), ?_, ?_, trivial⟩
    · have e := int_text_length_le10 (k := 45) (by decide) h
      show (Str.ofString (toString i)).length ≤ 50
      rw [PySem.ofString_length]
      exact Nat.le_trans e (by decide)
    · split
      · omega
      · rename_i h0
        have h1 : i.natAbs ≠ 0 := fun z => h0 (by simpa using z)
        have h2 : i.natAbs.log2 < 150 := (Nat.log2_lt h1).mpr (Nat.lt_of_lt_of_le h (by decide))
        omega
  | inr z =>
    have h : (decide (z.length ≤ 100) && z.cps.toList.all fun c => decide (c < 16 ^ 8)) = true := h
    rw [Bool.and_eq_true, decide_eq_true_eq] at h
    simp only [keyP, PyData.showable, PyData.leavesShort, PyData.weight, PyData.depth]
    exact ⟨trivial, h.2, Nat.le_trans h.1 (by decide), trivial⟩
theorem dp_le_of {a b c : Nat} (h1 : a ≤ c) (h2 : b ≤ c) : max a b ≤ c := Nat.max_le.mpr ⟨h1, h2⟩
mutual
theorem okS_show : ∀ d : D, d.okS = true → d.py.showable = true ∧ d.py.leavesShort 50 = true ∧ d.py.weight + 1 ≤ 154 * d.w ∧ d.py.depth ≤ d.dp'
  | .non, _ => by simp only [D.py, PyData.showable, PyData.leavesShort, PyData.weight, PyData.depth, D.w, D.dp']; exact ⟨trivial, trivial, by omega, Nat.le_refl _⟩
  | .bl _, _ => by simp only [D.py, PyData.showable, PyData.leavesShort, PyData.weight, PyData.depth, D.w, D.dp']; exact ⟨trivial, trivial, by omega, Nat.le_refl _⟩
  | .int i, h => by
    obtain ⟨a, b, c, d⟩ := keyP_show (k := .inl i) h
    simp only [keyP] at a b c d
    simp only [D.py, D.w, D.dp']
    exact ⟨a, b, by omega, by omega⟩
  | .str z, h => by
    obtain ⟨a, b, c, d⟩ := keyP_show (k := .inr z) h
    simp only [keyP] at a b c d
    simp only [D.py, D.w, D.dp']
    exact ⟨a, b, by omega, by omega⟩
  | .lst xs, h => by
    obtain ⟨a, b, c, d⟩ := oksS_show xs h
    simp only [D.py, PyData.showable, PyData.leavesShort, PyData.weight, PyData.depth, D.w, D.dp']
    exact ⟨a, b, by omega, by omega⟩
  | .tup xs, h => by
    obtain ⟨a, b, c, d⟩ := oksS_show xs h
    simp only [D.py, PyData.showable, PyData.leavesShort, PyData.weight, PyData.depth, D.w, D.dp']
    exact ⟨a, b, by omega, by omega⟩
  | .dct kvs, h => by
    obtain ⟨a, b, c, d⟩ := okkS_show kvs h
    simp only [D.py, PyData.showable, PyData.leavesShort, PyData.weight, PyData.depth, D.w, D.dp']
    exact ⟨a, b, by omega, by omega⟩
  | .ro _, h => by cases h
theorem oksS_show : ∀ xs : List D, oksS xs = true → PyData.showableAll (pys xs) = true ∧ PyData.leavesShortAll 50 (pys xs) = true ∧ PyData.weightAll (pys xs) ≤ 154 * ws xs ∧ PyData.depthAll (pys xs) ≤ dps xs
  | [], _ => by simp only [pys, PyData.showableAll, PyData.leavesShortAll, PyData.weightAll, PyData.depthAll, ws, dps]; exact ⟨trivial, trivial, by omega, Nat.le_refl _⟩
  | x :: xs, h => by
    simp only [oksS, Bool.and_eq_true] at h
    obtain ⟨a1, b1, c1, d1⟩ := okS_show x h.1
    obtain ⟨a2, b2, c2, d2⟩ := oksS_show xs h.2
    simp only [pys, PyData.showableAll, PyData.leavesShortAll, PyData.weightAll, PyData.depthAll, ws, dps, Bool.and_eq_true]
    exact ⟨⟨a1, a2⟩, ⟨b1, b2⟩, by omega, by omega⟩
theorem okkS_show : ∀ xs : List (Key × D), okkS xs = true → PyData.showableKv (pyk xs) = true ∧ PyData.leavesShortKv 50 (pyk xs) = true ∧ PyData.weightKv (pyk xs) ≤ 154 * wk xs ∧ PyData.depthKv (pyk xs) ≤ dpk xs
  | [], _ => by simp only [pyk, PyData.showableKv, PyData.leavesShortKv, PyData.weightKv, PyData.depthKv, wk, dpk]; exact ⟨trivial, trivial, by omega, Nat.le_refl _⟩
  | (k, x) :: xs, h => by
    simp only [okkS, Bool.and_eq_true] at h
    obtain ⟨a0, b0, c0, d0⟩ := keyP_show h.1.1
    obtain ⟨a1, b1, c1, d1⟩ := okS_show x h.1.2
    obtain ⟨a2, b2, c2, d2⟩ := okkS_show xs h.2
    simp only [pyk, PyData.showableKv, PyData.leavesShortKv, PyData.weightKv, PyData.depthKv, wk, dpk, Bool.and_eq_true]
    exact ⟨⟨⟨a0, a1⟩, a2⟩, ⟨⟨b0, b1⟩, b2⟩, by omega, by omega⟩
end
theorem show_of {d : D} (h : d.okS = true) (hw : d.w ≤ 2000) (hd : d.dp' ≤ 100) : showOk d = true := by
  obtain ⟨a, b, c, e⟩ := okS_show d h
  have h1 := PyData.shown_le 50 (by decide) d.py b
  have h3 : d.py.weight ≤ 154 * 2000 := by omega
  unfold showOk
  rw [a, decide_eq_true (show d.py.depth ≤ 100 by omega), decide_eq_true (Nat.le_trans h1 (Nat.le_trans (Nat.add_le_add_right (Nat.mul_le_mul_left _ h3) _) (by decide)))]
  rfl
theorem empty_lit : ("" : Str) = Str.empty := by decide +kernel
def small (z : Str) : Bool := z.cps.toList.all isSign
theorem sign_ok {z : Str} (h : small z = true) : (z.cps.toList.all fun c => decide (c < 16 ^ 8)) = true := by
  unfold small at h
  rw [List.all_eq_true] at h ⊢
  intro c hc
  have := h c hc
  unfold isSign at this
  simp only [Bool.and_eq_true, decide_eq_true_eq] at this ⊢
  exact Nat.lt_of_le_of_lt this.2 (by decide)
theorem join_eq (zs : List Str) : Txt.join ("" : Str) zs = Str.join Str.empty zs := by rw [empty_lit]; exact PySem.StrLaws.glued_eq_join _ _
theorem joined_small {zs : List Str} (h : ∀ z ∈ zs, small z = true) : small (Txt.join ("" : Str) zs) = true := by
  unfold small
  rw [join_eq, joined_all, List.all_eq_true]
  exact h
theorem joined_length (zs : List Str) : (Txt.join ("" : Str) zs).length = (zs.map (·.length)).sum := by rw [join_eq, joined_len]
theorem sum_le {zs : List Str} {n : Nat} (h : ∀ z ∈ zs, z.length ≤ n) : (zs.map (·.length)).sum ≤ n * zs.length := by
  induction zs with
  | nil => simp
  | cons z zs ih =>
    have h1 := h z (by simp)
    have h2 := ih fun y hy => h y (by simp [hy])
    simp only [List.map_cons, List.sum_cons, List.length_cons, Nat.mul_add]
    omega
theorem thing_len {z : Str} (h : isThingS z = true) : 1 ≤ z.length ∧ z.length ≤ 8 ∧ small z = true := by
  unfold isThingS at h
  simp only [Bool.and_eq_true, decide_eq_true_eq] at h
  exact ⟨h.1.1, h.1.2, h.2⟩
theorem thing_ne {z : Str} (h : isThingS z = true) : z ≠ ("" : Str) := by
  intro e
  have := (thing_len h).1
  rw [e] at this
  have z0 : ("" : Str).length = 0 := by decide +kernel
  omega
theorem thing_okS {z : Str} (h : isThingS z = true) : (D.str z).okS = true := by
  obtain ⟨_, h2, h3⟩ := thing_len h
  show (decide (z.length ≤ 100) && z.cps.toList.all fun c => decide (c < 16 ^ 8)) = true
  rw [decide_eq_true (Nat.le_trans h2 (by decide)), sign_ok h3]; rfl
theorem thing_keyS {z : Str} (h : isThingS z = true) : keyS (.inr z) = true := thing_okS h
end VD

set_option Elab.async false
set_option linter.all false
set_option maxRecDepth 100000
set_option maxHeartbeats 4000000
set_option exponentiation.threshold 20000
namespace VT
open PySem PySem.Spec L2 MC VD
open PyProof.Rows hiding St

def dctP (l : List (Str × Int)) : List (Key × D) := l.map fun p => (Sum.inr p.1, .int p.2)
def goD : Option (List (Str × Int)) → D
  | none => .non
  | some g => .dct (dctP g)
def findP (l : List (Str × Int)) (z : Str) : Option Int := (l.find? fun p => decide (p.1 = z)).map (·.2)
def gget (l : List (Str × Int)) (z : Str) : Int := (findP l z).getD 0
theorem look_dctP (l : List (Str × Int)) (z : Str) : lookD (dctP l) (.inr z) = (findP l z).map D.int := by
  unfold lookD findP dctP
  induction l with
  | nil => rfl
  | cons p l ih =>
    by_cases h : p.1 = z
    · rw [List.map_cons, List.find?_cons_of_pos (by simpa using h), List.find?_cons_of_pos (by simpa using h)]; rfl
    · rw [List.map_cons, List.find?_cons_of_neg (by simpa using h), List.find?_cons_of_neg (by simpa using h)]; exact ih
theorem look_getD (l : List (Str × Int)) (z : Str) (i : Int) : (lookD (dctP l) (.inr z)).getD (.int i) = .int ((findP l z).getD i) := by
  rw [look_dctP]; cases findP l z <;> rfl
theorem findP_none {l : List (Str × Int)} {z : Str} (h : z ∉ l.map (·.1)) : findP l z = none := by
  unfold findP
  rw [List.find?_eq_none.mpr]
  · rfl
  · intro p hp
    simp only [decide_eq_true_eq]
    exact fun e => h (List.mem_map.mpr ⟨p, hp, e⟩)
theorem findP_mem {l : List (Str × Int)} {z : Str} {i : Int} (h : findP l z = some i) : (z, i) ∈ l := by
  unfold findP at h
  obtain ⟨p, h1, rfl⟩ := Option.map_eq_some_iff.mp h
  have h2 := List.find?_some h1
  have h3 := List.mem_of_find?_eq_some h1
  simp only [decide_eq_true_eq] at h2
  rw [← h2]; exact h3
theorem len_dctP (l : List (Str × Int)) : (dctP l).length = l.length := by unfold dctP; rw [List.length_map]
theorem keyStrs_dctP (l : List (Str × Int)) : keyStrs (dctP l) = some (l.map (·.1)) := by
  unfold dctP
  induction l with
  | nil => rfl
  | cons p l ih => rw [List.map_cons, keyStrs, ih]; rfl
theorem vals_dctP (l : List (Str × Int)) : (dctP l).map (·.2) = (l.map (·.2)).map D.int := by
  unfold dctP; rw [List.map_map, List.map_map]; rfl
theorem flats_ints (l : List Int) : flats (l.map D.int) = true := by
  induction l with
  | nil => rfl
  | cons p l ih => rw [List.map_cons, flats, ih]; rfl
theorem flats_strs (l : List Str) : flats (l.map D.str) = true := by
  induction l with
  | nil => rfl
  | cons p l ih => rw [List.map_cons, flats, ih]; rfl

theorem is_whole_int (i : Int) {P : D × List D → Prop} (p : P (.bl true, [])) : OkP (Sh.den_is_whole [.int i]) P := by
  refine okp_def (Nat.le_of_ble_eq_true rfl) ?_
  unfold Sh.body_is_whole; dsimp only [padE]
  walk_at "vs"
  refine op_isi rfl ?_
  walk_at "vs"
  refine op_isi rfl ?_
  walk_at "vs"
  exact ⟨_, rfl, p⟩
theorem are_small_str (z : Str) (hz : z.length ≤ 5592405) {P : D × List D → Prop} (p : P (.bl (small z), [])) : OkP (Sh.den_are_small [.str z]) P := by
  refine okp_def (Nat.le_of_ble_eq_true rfl) ?_
  unfold Sh.body_are_small; dsimp only [padE]
  have key := small_look z
  rw [← empty_lit] at key
  unfold small at p
  rw [← key] at p
  walk_at "vs"
  refine ⟨fun h => ?_, fun h => ?_⟩
  · rw [h, Bool.true_or] at p; exact ⟨_, rfl, p⟩
  rw [h, Bool.false_or] at p
  walk_at "vs"
  refine ⟨rfl, ?_⟩
  walk_at "vs"
  refine ⟨.bl (Txt.isascii z), rfl, ?_⟩
  walk_at "vs"
  refine ⟨fun h => ?_, fun h => by rw [h, Bool.false_and] at p; exact ⟨_, rfl, p⟩⟩
  rw [h, Bool.true_and] at p
  walk_at "vs"
  refine ⟨rfl, ?_⟩
  walk_at "vs"
  refine ⟨.bl (Txt.isalpha z), rfl, ?_⟩
  walk_at "vs"
  refine ⟨fun h => ?_, fun h => by rw [h, Bool.false_and] at p; exact ⟨_, rfl, p⟩⟩
  rw [h, Bool.true_and] at p
  walk_at "vs"
  refine ⟨rfl, ?_⟩
  walk_at "vs"
  refine ⟨.str (Txt.lower z), by unfold mLower mStr0; simp only []; rw [if_pos (by simpa using hz)], ?_⟩
  walk_at "vs"
  exact ⟨_, rfl, p⟩
def OkG (g : List (Str × Int)) : Prop := (∀ p ∈ g, isThingS p.1 = true) ∧ g.length ≤ 1000
theorem items_at {g : List (Str × Int)} {i : Nat} {d : D} (h : ((dctP g).map fun e => D.tup [kD e.1, e.2])[i]? = some d) : ∃ p ∈ g, d = .tup [.str p.1, .int p.2] ∧ g[i]? = some p := by
  unfold dctP at h
  rw [List.map_map, List.getElem?_map] at h
  obtain ⟨p, h1, rfl⟩ := Option.map_eq_some_iff.mp h
  exact ⟨p, List.mem_of_getElem? h1, rfl, h1⟩
theorem join_fits {g : List (Str × Int)} (h : ∀ p ∈ g, isThingS p.1 = true) (hl : g.length ≤ 1000) : ((g.map (·.1)).map (·.length)).sum + (g.map (·.1)).length * ("" : Str).length ≤ 16777216 ∧ (Txt.join ("" : Str) (g.map (·.1))).length ≤ 5592405 ∧ small (Txt.join ("" : Str) (g.map (·.1))) = true := by
  have z0 : ("" : Str).length = 0 := by decide +kernel
  have e1 : ((g.map (·.1)).map (·.length)).sum ≤ 8 * (g.map (·.1)).length := sum_le fun z hz => by
    obtain ⟨p, hp, rfl⟩ := List.mem_map.mp hz
    exact (thing_len (h p hp)).2.1
  rw [List.length_map] at e1
  refine ⟨by rw [z0]; omega, by rw [joined_length]; omega, joined_small fun z hz => ?_⟩
  obtain ⟨p, hp, rfl⟩ := List.mem_map.mp hz
  exact (thing_len (h p hp)).2.2
theorem lens_ok {z : Str} (h : z.length ≤ 8) : z.length ≤ sizeLine := Nat.le_trans h (by decide)
theorem no_empty {l : List (Str × Int)} (h : ∀ p ∈ l, isThingS p.1 = true) : ("" : Str) ∉ l.map (·.1) := fun z => by
  obtain ⟨p, hp, e⟩ := List.mem_map.mp z
  exact thing_ne (h p hp) e
theorem look_empty {l : List (Str × Int)} (h : ∀ p ∈ l, isThingS p.1 = true) : (lookD (dctP l) (.inr ("" : Str))).isSome = false := by
  rw [look_dctP, findP_none (no_empty h)]; rfl
theorem lowest_ok {g : List (Str × Int)} (hg : OkG g) {P : D × List D → Prop} (p : ∀ l, P (.int l, [])) : OkP (Sh.den_lowest_of [.dct (dctP g)]) P := by
  obtain ⟨h1, h2⟩ := hg
  refine okp_def (Nat.le_of_ble_eq_true rfl) ?_
  unfold Sh.body_lowest_of; dsimp only [padE]
  walk_at "vs"
  refine op_isi rfl ?_
  walk_at "vs"
  refine okl_for (fun i e => ∃ l a b, e = [some (.dct (dctP g)), some (.int l), a, b]) _ 0 _ ⟨_, _, _, rfl⟩ (fun i d e hi he => ?_) (fun e he => ?_)
  · obtain ⟨l, a, b, rfl⟩ := he
    obtain ⟨q, hq, rfl, _⟩ := items_at hi
    refine ⟨_, rfl, ?_⟩
    unfold Sh.bd_lowest_of_1
    walk_at "vc"
    walk_at "vs"
    refine op_isi rfl ?_
    walk_at "vs"
    have hz := (thing_len (h1 q hq)).2.1
    refine op_lenS (lens_ok hz) ?_
    walk_at "vs"
    refine br_f (decide_eq_false (by omega)) ?_
    walk_at "vs"
    refine op_isi rfl ?_
    walk_at "vs"
    refine ⟨fun _ => ?_, fun _ => ?_⟩
    · walk_at "vs"
      exact ⟨rfl, _, _, _, rfl⟩
    · walk_at "vs"
      exact ⟨_, _, _, rfl⟩
  · obtain ⟨l, a, b, rfl⟩ := he
    walk_at "vs"
    refine op_din rfl ?_
    walk_at "vs"
    obtain ⟨j1, j2, j3⟩ := join_fits h1 h2
    refine br_t (by rw [look_empty h1]; rfl) ?_
    walk_at "vs"
    refine ⟨rfl, ?_⟩
    walk_at "vs"
    refine ⟨.str (Txt.join ("" : Str) (g.map (·.1))), by unfold pJoin; simp only []; rw [keyStrs_dctP]; simp only [Option.bind]; rw [if_pos j1], ?_⟩
    walk_at "vs"
    refine are_small_str _ j2 ?_
    rw [j3]
    walk_at "vc"
    walk_at "vs"
    exact ⟨rfl, _, rfl, p l⟩
theorem checked_graces_ok {g : Option (List (Str × Int))} (hg : OkG (g.getD [])) {P : D × List D → Prop} (p : P (.dct (dctP (g.getD [])), [])) : OkP (Sh.den_checked_graces [goD g]) P := by
  refine okp_def (Nat.le_of_ble_eq_true rfl) ?_
  unfold Sh.body_checked_graces; dsimp only [padE]
  walk_at "vs"
  refine okp_def (Nat.le_of_ble_eq_true rfl) ?_
  unfold Sh.body_with_lowest; dsimp only [padE]
  cases g with
  | none =>
    walk_at "vs"
    refine op_isn ?_
    walk_at "vs"
    refine ⟨rfl, (show (2 : Nat) ≤ sizeLine by decide), ?_⟩
    refine ⟨_, rfl, _, rfl, ?_⟩
    walk_at "vc"
    walk_at "vs"
    exact ⟨_, rfl, p⟩
  | some g =>
    unfold goD
    walk_at "vs"
    refine op_isn ?_
    walk_at "vs"
    refine lowest_ok hg fun l => ?_
    walk_at "vc"
    walk_at "vs"
    refine op_isn ?_
    walk_at "vs"
    refine ⟨rfl, ?_⟩
    walk_at "vs"
    refine ⟨rfl, (show (2 : Nat) ≤ sizeLine by decide), ?_⟩
    refine ⟨_, rfl, _, rfl, ?_⟩
    walk_at "vc"
    walk_at "vs"
    exact ⟨_, rfl, p⟩

structure OkSt (dr : Int) (g st : List (Str × Int)) : Prop where
  nd : (st.map (·.1)).Nodup
  th : ∀ p ∈ st, isThingS p.1 = true
  pos : ∀ p ∈ st, 0 ≤ p.2
  lim : ∀ p ∈ st, p.2 < dr + gget g p.1
  up : (st.map (·.2)).Pairwise (· ≤ ·)
  len : st.length ≤ 100
end VT

set_option Elab.async false
set_option linter.all false
set_option maxRecDepth 100000
set_option maxHeartbeats 4000000
set_option exponentiation.threshold 20000
namespace VT
open PySem PySem.Spec L2 MC VD
open PyProof.Rows hiding St

def OkU (N : Nat) (d : D) : Prop := ∃ a b c : Int, d = .lst [.int a, .int b, .int c] ∧ 0 ≤ b ∧ b ≤ 10 ^ 45 ∧ 0 ≤ c ∧ c ≤ N
theorem OkU.mono {N M : Nat} {d : D} (h : OkU N d) (l : N ≤ M) : OkU M d := by
  obtain ⟨a, b, c, e, h1, h2, h3, h4⟩ := h
  exact ⟨a, b, c, e, h1, h2, h3, by omega⟩
theorem OkU.lst {N : Nat} {d : D} (h : OkU N d) : ∃ u, d = .lst u := by
  obtain ⟨a, b, c, e, _⟩ := h; exact ⟨_, e⟩
theorem e18 : (10 ^ (18 : Int).toNat : Int) = 1000000000000000000 := by decide
theorem e37 : (10 ^ (37 : Int).toNat : Int) = 10000000000000000000000000000000000000 := by decide
theorem e29 : (10 ^ (29 : Int).toNat : Int) = 10 ^ 29 := by decide
theorem mod_bd {x m : Int} (h : 0 < m) : 0 ≤ x % m ∧ x % m < m := ⟨Int.emod_nonneg x (by omega), Int.emod_lt_of_pos x h⟩
theorem bigB_of {i : Int} (h1 : -(10 ^ 200) < i) (h2 : i < 10 ^ 200) : bigB i = true := by unfold bigB; rw [decide_eq_true h1, decide_eq_true h2]; rfl
theorem powB3 {i : Int} (h1 : -(10 ^ 200) < i) (h2 : i < 10 ^ 200) : powB i 3 = true := by unfold powB; rw [bigB_of h1 h2]; rfl
theorem divB_of {i j : Int} (h : 0 < j) (h2 : j < 10 ^ 200) : divB i j = true := by unfold divB; rw [decide_eq_true h, bigB_of (by omega) h2]; rfl
theorem oko_cut {sa sb : Ev → Option Out} {e : Ev} {Q : Out → Prop} (I : Ev → Prop) (h : OkO (sa e) fun o => ∃ e1, o = .nx e1 ∧ I e1) (k : ∀ e1, I e1 → OkO (sb e1) Q) : OkO (sSeq sa sb e) Q :=
  oko_seq (h.mono fun o ⟨e1, he, hi⟩ => by subst he; exact k e1 hi)
theorem rng_len (n : Nat) : (rangeI 0 1 n).length = n := by unfold rangeI; rw [List.length_map, List.length_range]
theorem rng_at {n i : Nat} {d : D} (h : (rangeI 0 1 n)[i]? = some d) : d = .int (i : Int) ∧ i < n := by
  have hl : i < n := by have := (List.getElem?_eq_some_iff.mp h).1; rwa [rng_len] at this
  unfold rangeI at h
  rw [List.getElem?_map, List.getElem?_range hl] at h
  cases h
  refine ⟨?_, hl⟩
  simp
theorem ixN_nat {n : Nat} {r : Int} (h0 : 0 ≤ r) (h1 : r < n) : ixN n r = some r.toNat := by
  unfold ixN
  rw [if_pos (by omega), if_pos (by omega)]
theorem op_popAt {xs : List D} {r : Int} {y : D} {P : D × List D → Prop} (h0 : 0 ≤ r) (hy : xs[r.toNat]? = some y) (hl : xs.length < 2 ^ 62) (p : P (y, xs.eraseIdx r.toNat)) : OkP (mPopAt xs [.int r]) P := by
  have h1 := (List.getElem?_eq_some_iff.mp hy).1
  refine ⟨_, ?_, p⟩
  unfold mPopAt
  simp only []
  rw [ixN_nat h0 (by omega)]
  simp only []
  rw [hy]
  simp only []
  rw [if_pos (by simpa using hl)]
theorem at_lst {xs : List D} {r : Int} (h0 : 0 ≤ r) (h1 : r < xs.length) : ∃ d ∈ xs, atI xs r = some d := by
  have hl : r.toNat < xs.length := by omega
  refine ⟨xs[r.toNat], List.getElem_mem hl, ?_⟩
  have := atI_nat' (xs := xs) (i := r.toNat) (d := xs[r.toNat]) (by simp [hl])
  rwa [Int.toNat_of_nonneg h0] at this
def lets : Str := "abcdefghijklmnopqrstuvwxyz"
def sgnAt (i : Nat) : Str := ⟨#[lets.cps.toList.getD i 0]⟩
theorem lets_len : lets.cps.size = 26 := by decide +kernel
theorem ok_in {α : Type} {o : Option (α × Ev)} {P : α → Ev → Prop} (I : α → Ev → Prop) (h : Ok o I) (k : ∀ a e, I a e → P a e) : Ok o P := h.mono k
end VT

set_option Elab.async false
set_option linter.all false
set_option maxRecDepth 100000
set_option maxHeartbeats 4000000
set_option exponentiation.threshold 20000
namespace VT
open PySem PySem.Spec L2 MC VD
open PyProof.Rows hiding St

structure StB (dr : Int) (g st : List (Str × Int)) : Prop where
  ok : OkSt dr g st
  ub : ∀ p ∈ st, p.2 < 10 ^ 30
  ln : st.length ≤ 60
end VT

set_option Elab.async false
set_option linter.all false
set_option maxRecDepth 100000
set_option maxHeartbeats 4000000
set_option exponentiation.threshold 20000
namespace VD
open PySem PySem.Spec L2 MC
open PyProof.Rows hiding St
section
variable {e : Ev} {Q : Out → Prop} {da di dj : Ev → Option (D × Ev)}
end
theorem op_eqk {es fs : List (Key × D)} {neg : Bool} {P : D → Prop} (h1 : intKs es = true) (h2 : intKs fs = true) (p : P (.bl (xor neg (eqK es fs)))) : OkP (pEqK neg (.dct es) (.dct fs)) P := ⟨_, by unfold pEqK; simp only []; rw [h1, h2]; rfl, p⟩
end VD
namespace VT
open PySem PySem.Spec L2 MC VD
open PyProof.Rows hiding St
def Shw (l : List (Str × Int)) : Prop := ∀ p ∈ l, isThingS p.1 = true ∧ -(10 ^ 40) < p.2 ∧ p.2 < 10 ^ 40
theorem Shw.nil : Shw [] := by intro p hp; cases hp
theorem okS_int {i : Int} (h1 : -(10 ^ 40) < i) (h2 : i < 10 ^ 40) : (D.int i).okS = true := by
  show decide (i.natAbs < 10 ^ 45) = true
  exact decide_eq_true (by omega)
theorem okkS_dctP {l : List (Str × Int)} (h : Shw l) : okkS (dctP l) = true := by
  induction l with
  | nil => rfl
  | cons p l ih =>
    obtain ⟨h1, h2, h3⟩ := h p (by simp)
    show (keyS (.inr p.1) && (D.int p.2).okS && okkS (dctP l)) = true
    rw [ih fun q hq => h q (by simp [hq]), thing_keyS h1, okS_int h2 h3]; rfl
theorem wk_dctP (l : List (Str × Int)) : wk (dctP l) = 2 * l.length := by
  induction l with
  | nil => rfl
  | cons p l ih =>
    show 1 + (D.int p.2).w + wk (dctP l) = _
    rw [ih, List.length_cons]
    simp only [D.w]
    omega
theorem dpk_dctP (l : List (Str × Int)) : dpk (dctP l) ≤ 0 := by
  induction l with
  | nil => simp [dctP, dpk]
  | cons p l ih =>
    show max (D.int p.2).dp' (dpk (dctP l)) ≤ 0
    exact dp_le_of (Nat.le_refl _) ih
theorem StB.shw {dr : Int} {g st : List (Str × Int)} (h : StB dr g st) : Shw st := fun p hp => ⟨h.ok.th p hp, by have := h.ok.pos p hp; omega, by have := h.ub p hp; omega⟩
theorem StB.sub {dr : Int} {g st st' : List (Str × Int)} (h : StB dr g st) (s : st'.Sublist st) : StB dr g st' := by
  refine ⟨⟨(s.map _).nodup h.ok.nd, fun p hp => h.ok.th p (s.subset hp), fun p hp => h.ok.pos p (s.subset hp), fun p hp => h.ok.lim p (s.subset hp), h.ok.up.sublist (s.map _), Nat.le_trans s.length_le h.ok.len⟩, fun p hp => h.ub p (s.subset hp), Nat.le_trans s.length_le h.ln⟩
theorem StB.nil {dr : Int} {g : List (Str × Int)} : StB dr g [] := ⟨⟨by simp, by simp, by simp, by simp, by simp, by simp⟩, by simp, by simp⟩
end VT

set_option Elab.async false
set_option linter.all false
set_option maxRecDepth 100000
set_option maxHeartbeats 4000000
set_option exponentiation.threshold 20000
namespace VT
open PySem PySem.Spec L2 MC VD
open PyProof.Rows hiding St

def pick (m : Nat) (v : List (Str × Int)) : List (Str × Int) := (List.range m).flatMap fun a : Nat => v.filter fun p => decide (p.2 = (a : Int))
def cnt (lo hi : Int) : Int := max 0 (hi - lo + 1)
end VT

set_option Elab.async false
set_option linter.all false
set_option maxRecDepth 100000
set_option maxHeartbeats 4000000
set_option exponentiation.threshold 20000
namespace VT
open PySem PySem.Spec L2 MC VD
open PyProof.Rows hiding St

def sq (tp : Bool) (xs : List VD.D) : VD.D := if tp then .tup xs else .lst xs
inductive Pt where
  | one (z : Str)
  | ag (tp : Bool) (ps : List Str) (t : Nat)
def Pt.d : Pt → VD.D
  | .one z => .str z
  | .ag tp ps t => .tup [sq tp (ps.map VD.D.str), .int (t : Int)]
def Pt.asks : Pt → List Str
  | .one z => [z]
  | .ag _ ps t => (List.replicate t ps).flatten
def Pt.isAg : Pt → Bool
  | .one _ => false
  | .ag _ _ _ => true
def Pt.w : Pt → Nat
  | .one _ => 1
  | .ag _ ps _ => 3 + ps.length
def Pt.ok : Pt → Prop
  | .one z => isThingS z = true
  | .ag _ ps t => ps ≠ [] ∧ (∀ z ∈ ps, isThingS z = true) ∧ 1 ≤ t ∧ t ≤ 1000
def ptsD (ps : List Pt) : List VD.D := ps.map Pt.d
def ptsA (ps : List Pt) : List Str := ps.flatMap Pt.asks
theorem seq_sq (tp : Bool) (xs : List VD.D) : seqD (sq tp xs) = some xs := by cases tp <;> rfl
theorem len_sq (tp : Bool) (xs : List VD.D) : pLen [sq tp xs] = some (.int xs.length) := by cases tp <;> rfl
theorem noD_sq (tp : Bool) (xs : List VD.D) : (sq tp xs).noD = noDs xs := by cases tp <;> rfl
theorem ro_sq (tp : Bool) (xs : List VD.D) : isRo (sq tp xs) = false := by cases tp <;> rfl
theorem noDs_strs (zs : List Str) : noDs (zs.map VD.D.str) = true := by
  induction zs with
  | nil => rfl
  | cons z zs ih => rw [List.map_cons, noDs, ih]; rfl
theorem noDs_pts (ps : List Pt) : noDs (ptsD ps) = true := by
  induction ps with
  | nil => rfl
  | cons p ps ih =>
    show (p.d.noD && noDs (ptsD ps)) = true
    rw [ih, Bool.and_true]
    cases p with
    | one z => rfl
    | ag tp zs t =>
      show ((sq tp (zs.map VD.D.str)).noD && ((VD.D.int t).noD && true)) = true
      rw [noD_sq, noDs_strs]; rfl
theorem okD_thing {z : Str} (h : isThingS z = true) : MC.okD (.str z) = true := by
  obtain ⟨_, h2, h3⟩ := thing_len h
  show (decide (z.length ≤ 9) && z.cps.toList.all fun c => decide (c < 16 ^ 8)) = true
  rw [decide_eq_true (by omega), sign_ok h3]; rfl
theorem strs_row {zs : List Str} (h : ∀ z ∈ zs, isThingS z = true) : MC.oksD (pys (zs.map VD.D.str)) = true ∧ MC.partsD (pys (zs.map VD.D.str)) = true ∧ MC.wDs (pys (zs.map VD.D.str)) = zs.length ∧ PyData.depthAll (pys (zs.map VD.D.str)) = 0 := by
  induction zs with
  | nil => exact ⟨rfl, rfl, rfl, rfl⟩
  | cons z zs ih =>
    obtain ⟨h1, h2, h3, h4⟩ := ih fun y hy => h y (by simp [hy])
    have hz := h z (by simp)
    refine ⟨?_, ?_, ?_, ?_⟩
    · show (MC.okD (.str z) && MC.oksD (pys (zs.map VD.D.str))) = true
      rw [h1, okD_thing hz]; rfl
    · show (MC.partD (.str z) && MC.partsD (pys (zs.map VD.D.str))) = true
      rw [h2]
      show (isThingS z && true) = true
      rw [hz]; rfl
    · show MC.wD (.str z) + MC.wDs (pys (zs.map VD.D.str)) = (z :: zs).length
      rw [h3, List.length_cons]
      show 1 + zs.length = _
      omega
    · show max (PyData.depth (.str z)) (PyData.depthAll (pys (zs.map VD.D.str))) = 0
      rw [h4]; rfl
theorem py_sq (tp : Bool) (xs : List VD.D) : (sq tp xs).py = if tp then .tuple (pys xs) else .list (pys xs) := by cases tp <;> rfl
theorem pt_row {p : Pt} (h : p.ok) : MC.okD p.d.py = true ∧ MC.partD p.d.py = true ∧ MC.wD p.d.py = p.w ∧ PyData.depth p.d.py ≤ 2 := by
  cases p with
  | one z =>
    refine ⟨okD_thing h, h, rfl, ?_⟩
    show PyData.depth (.str z) ≤ 2
    simp [PyData.depth]
  | ag tp zs t =>
    obtain ⟨h1, h2, h3, h4⟩ := h
    obtain ⟨k1, k2, k3, k4⟩ := strs_row h2
    have ne : pys (zs.map VD.D.str) ≠ [] := by cases zs with | nil => exact absurd rfl h1 | cons z zs => exact fun z => nomatch z
    have e : (Pt.ag tp zs t).d.py = .tuple [(sq tp (zs.map VD.D.str)).py, .int t] := rfl
    rw [e, py_sq]
    refine ⟨?_, ?_, ?_, ?_⟩
    · show (MC.okD _ && (MC.okD (.int t) && true)) = true
      have : MC.okD (.int (t : Int)) = true := by show decide ((t : Int).natAbs < 10 ^ 40) = true; exact decide_eq_true (by omega)
      rw [this]
      cases tp <;> (show (MC.oksD (pys (zs.map VD.D.str)) && _) = true; rw [k1]; rfl)
    · have tk : timesOk (t : Int) = true := by unfold timesOk; rw [decide_eq_true (by omega), decide_eq_true (by omega)]; rfl
      cases tp with
      | true =>
        show (timesOk t && !MC.dNil (.tuple (pys (zs.map VD.D.str))) && MC.rowD (.tuple (pys (zs.map VD.D.str)))) = true
        have : MC.dNil (.tuple (pys (zs.map VD.D.str))) = false := by cases e : pys (zs.map VD.D.str) with | nil => exact absurd e ne | cons _ _ => rfl
        rw [tk, this]; exact k2
      | false =>
        show (timesOk t && !MC.dNil (.list (pys (zs.map VD.D.str))) && MC.rowD (.list (pys (zs.map VD.D.str)))) = true
        have : MC.dNil (.list (pys (zs.map VD.D.str))) = false := by cases e : pys (zs.map VD.D.str) with | nil => exact absurd e ne | cons _ _ => rfl
        rw [tk, this]; exact k2
    · cases tp <;> (simp only [MC.wD, MC.wDs, k3, Pt.w, if_true, Bool.false_eq_true, if_false]; omega)
    · cases tp <;> (simp only [PyData.depth, PyData.depthAll, k4, if_true, Bool.false_eq_true, if_false]; omega)
theorem pts_row {ps : List Pt} (h : ∀ p ∈ ps, p.ok) : MC.oksD (pys (ptsD ps)) = true ∧ MC.partsD (pys (ptsD ps)) = true ∧ MC.wDs (pys (ptsD ps)) = (ps.map Pt.w).sum ∧ PyData.depthAll (pys (ptsD ps)) ≤ 2 := by
  induction ps with
  | nil => exact ⟨rfl, rfl, rfl, Nat.zero_le _⟩
  | cons p ps ih =>
    obtain ⟨h1, h2, h3, h4⟩ := ih fun y hy => h y (by simp [hy])
    obtain ⟨k1, k2, k3, k4⟩ := pt_row (h p (by simp))
    refine ⟨?_, ?_, ?_, ?_⟩
    · show (MC.okD p.d.py && MC.oksD (pys (ptsD ps))) = true
      rw [h1, k1]; rfl
    · show (MC.partD p.d.py && MC.partsD (pys (ptsD ps))) = true
      rw [h2, k2]; rfl
    · show MC.wD p.d.py + MC.wDs (pys (ptsD ps)) = _
      rw [h3, k3, List.map_cons, List.sum_cons]
    · show max (PyData.depth p.d.py) (PyData.depthAll (pys (ptsD ps))) ≤ 2
      omega
theorem is_row_ok {tp : Bool} {ps : List Pt} (h : ∀ p ∈ ps, p.ok) (hw : (ps.map Pt.w).sum ≤ 1990) : denLook MC.rowD [sq tp (ptsD ps)] = some (.bl true, []) := by
  obtain ⟨h1, h2, h3, h4⟩ := pts_row h
  unfold denLook
  simp only []
  have e1 : rowFit (sq tp (ptsD ps)) = true := by
    unfold rowFit
    rw [noD_sq, noDs_pts, py_sq]
    cases tp with
    | true =>
      have a : MC.okD (.tuple (pys (ptsD ps))) = true := h1
      have b : PyData.depth (.tuple (pys (ptsD ps))) ≤ 60 := by simp only [PyData.depth]; omega
      have c : MC.wD (.tuple (pys (ptsD ps))) ≤ 2000 := by simp only [MC.wD]; omega
      simp only [if_true, a, b, c, decide_true, Bool.and_self]
    | false =>
      have a : MC.okD (.list (pys (ptsD ps))) = true := h1
      have b : PyData.depth (.list (pys (ptsD ps))) ≤ 60 := by simp only [PyData.depth]; omega
      have c : MC.wD (.list (pys (ptsD ps))) ≤ 2000 := by simp only [MC.wD]; omega
      simp only [Bool.false_eq_true, if_false, a, b, c, decide_true, Bool.and_self]
  have e2 : MC.rowD (sq tp (ptsD ps)).py = true := by rw [py_sq]; cases tp <;> exact h2
  rw [if_pos e1, e2]
theorem check_row_ok {tp : Bool} {ps : List Pt} (h : ∀ p ∈ ps, p.ok) (hw : (ps.map Pt.w).sum ≤ 1990) {P : VD.D × List VD.D → Prop} (p : P (.non, [])) : OkP (Sh.den_check_row [sq tp (ptsD ps)]) P := by
  refine okp_def (Nat.le_of_ble_eq_true rfl) ?_
  unfold Sh.body_check_row; dsimp only [padE]
  walk_at "vs"
  refine okp_of (is_row_ok h hw) ?_
  walk_at "vc"
  walk_at "vs"
  exact ⟨_, rfl, p⟩
theorem pSum_ints (l : List Int) : pSum [.lst (l.map VD.D.int)] = some (.int l.sum) := by unfold pSum listInts; simp only []; rw [intsOf_map]; rfl
def agsOf (ps : List Pt) : List Pt := ps.filter Pt.isAg
theorem ags_take {ps : List Pt} {i : Nat} {p : Pt} (h : ps[i]? = some p) : ptsD (agsOf (ps.take (i + 1))) = ptsD (agsOf (ps.take i)) ++ if p.isAg then [p.d] else [] := by
  unfold agsOf ptsD
  rw [List.take_succ, h, List.filter_append, List.map_append]
  congr 1
  cases e : p.isAg <;> simp [e]
theorem ptsD_at {ps : List Pt} {i : Nat} {d : VD.D} (h : (ptsD ps)[i]? = some d) : ∃ p, ps[i]? = some p ∧ d = p.d := by
  unfold ptsD at h
  rw [List.getElem?_map] at h
  obtain ⟨p, h1, rfl⟩ := Option.map_eq_some_iff.mp h
  exact ⟨p, h1, rfl⟩
theorem d_isi (p : Pt) : isRo p.d = false ∧ tyIs "str" p.d.ty = !p.isAg := by
  cases p with
  | one z => exact ⟨rfl, by show tyIs "str" "str" = !false; decide⟩
  | ag tp zs t => exact ⟨rfl, by show tyIs "str" "tuple" = !true; decide⟩
theorem count_go {n : Nat} {tp : Bool} {ps : List Pt} (hl : ps.length ≤ 2000) (inner : ∀ tp zs t, Pt.ag tp zs t ∈ ps → Sh.denN_count_asks n [sq tp (zs.map VD.D.str)] = some (.int zs.length, []) ∧ zs.length ≤ 2000 ∧ t ≤ 1000) {P : VD.D × List VD.D → Prop}
    (p : P (.int ((ptsA ps).length : Nat), [])) : OkP (Sh.denN_count_asks (n + 1) [sq tp (ptsD ps)]) P := by
  show OkP (dFn 5 [] (Sh.body_count_asks (Sh.denN_count_asks n)) _) P
  refine okp_def (Nat.le_of_ble_eq_true rfl) ?_
  unfold Sh.body_count_asks; dsimp only [padE]
  walk_at "vs"
  refine okp_of (seq_sq _ _) ?_
  walk_at "vc"
  refine ok_in (fun ys e => ys = ptsD (agsOf ps) ∧ e = [some (sq tp (ptsD ps)), none, none, none, none]) ?_ ?_
  · refine Ok.mono (okp_lc (fun i acc e => acc = ptsD (agsOf (ps.take i)) ∧ e = [some (sq tp (ptsD ps)), none, none, none, none]) _ 0 [] _ ⟨rfl, rfl⟩ fun i d acc e hi he => ?_) fun ys e he => ?_
    · obtain ⟨rfl, rfl⟩ := he
      obtain ⟨q, hq, rfl⟩ := ptsD_at hi
      refine ⟨_, rfl, ?_⟩
      walk_at "vc"
      walk_at "vs"
      refine op_isi (d_isi q).1 ?_
      rw [(d_isi q).2]
      walk_at "vs"
      rw [Nat.zero_add, ags_take hq]
      cases e : q.isAg with
      | true =>
        refine br_t rfl ?_
        walk_at "vs"
        exact ⟨by cases q <;> rfl, rfl, rfl⟩
      | false =>
        refine br_f rfl ?_
        exact ⟨by rw [if_neg (by decide), List.append_nil], rfl⟩
    · obtain ⟨h1, rfl⟩ := he
      rw [Nat.zero_add, show (ptsD ps).length = ps.length from List.length_map _, List.take_length] at h1
      exact ⟨by simpa using h1, rfl⟩
  rintro ys e1 ⟨rfl, rfl⟩
  have al : (agsOf ps).length ≤ ps.length := List.length_filter_le _ _
  have am : ∀ q ∈ agsOf ps, q ∈ ps ∧ q.isAg = true := fun q hq => by
    unfold agsOf at hq
    rw [List.mem_filter] at hq
    exact hq
  have fin : (ps.length : Int) - (agsOf ps).length + ((agsOf ps).map fun q => ((q.asks.length : Nat) : Int)).sum = ((ptsA ps).length : Nat) := by
    clear p inner hl al am
    induction ps with
    | nil => rfl
    | cons q ps ih =>
      unfold agsOf ptsA at ih ⊢
      rw [List.flatMap_cons, List.length_append]
      cases e : q.isAg with
      | true =>
        rw [List.filter_cons_of_pos e, List.map_cons, List.sum_cons, List.length_cons, List.length_cons]
        omega
      | false =>
        rw [List.filter_cons_of_neg (by rw [e]; decide), List.length_cons]
        cases q with
        | one z =>
          have : (Pt.one z).asks.length = 1 := rfl
          omega
        | ag _ _ _ => cases e
  generalize agsOf ps = ags at al am fin ⊢
  refine ⟨Nat.le_trans (show _ ≤ 2000 by unfold ptsD; rw [List.length_map]; omega) (by decide), ?_⟩
  walk_at "vs"
  refine okp_of (len_sq _ _) ?_
  walk_at "vs"
  refine ⟨_, rfl, ?_⟩
  walk_at "vc"
  refine ok_in (fun ys e => ys = (ags.map fun q => ((q.asks.length : Nat) : Int)).map VD.D.int ∧ e = [some (sq tp (ptsD ps)), some (.lst (ptsD ags)), none, none, none]) ?_ ?_
  · refine Ok.mono (okp_lc (fun i acc e => acc = ((ags.take i).map fun q => ((q.asks.length : Nat) : Int)).map VD.D.int ∧ e = [some (sq tp (ptsD ps)), some (.lst (ptsD ags)), none, none, none]) _ 0 [] _ ⟨rfl, rfl⟩ fun i d acc e hi he => ?_) fun ys e he => ?_
    · obtain ⟨rfl, rfl⟩ := he
      obtain ⟨q, hq, rfl⟩ := ptsD_at hi
      obtain ⟨q1, q2⟩ := am q (List.mem_of_getElem? hq)
      cases q with
      | one z => cases q2
      | ag tp' zs t =>
        obtain ⟨k1, k2, k3⟩ := inner tp' zs t q1
        refine ⟨_, rfl, ?_⟩
        walk_at "vc"
        walk_at "vs"
        refine okp_of k1 ?_
        walk_at "vc"
        walk_at "vs"
        refine op_mul' (mulB_of (a := 20) (b := 20) (Nat.lt_of_le_of_lt (show _ ≤ 2000 by omega) (by decide)) (Nat.lt_of_le_of_lt (show _ ≤ 1000 by omega) (by decide)) (by decide) (by decide) (by decide)) ?_
        refine ⟨rfl, ?_, rfl⟩
        rw [Nat.zero_add, List.take_succ, hq, List.map_append, List.map_append]
        have : ((zs.length : Int) * t) = (((Pt.ag tp' zs t).asks.length : Nat) : Int) := by
          show _ = (((List.replicate t zs).flatten.length : Nat) : Int)
          rw [List.length_flatten, List.map_replicate, List.sum_replicate_nat, Int.natCast_mul, Int.mul_comm]
        rw [this]; rfl
    · obtain ⟨h1, rfl⟩ := he
      rw [Nat.zero_add, show (ptsD ags).length = ags.length from List.length_map _, List.take_length] at h1
      exact ⟨by simpa using h1, rfl⟩
  rintro ys e1 ⟨rfl, rfl⟩
  refine ⟨Nat.le_trans (show _ ≤ 2000 by rw [List.length_map, List.length_map]; omega) (by decide), ?_⟩
  walk_at "vs"
  refine okp_of (pSum_ints _) ?_
  walk_at "vs"
  refine ⟨_, rfl, ?_⟩
  have : (((ptsD ps).length : Nat) : Int) - ((ptsD ags).length : Nat) + (ags.map fun q => ((q.asks.length : Nat) : Int)).sum = ((ptsA ps).length : Nat) := by
    unfold ptsD; rw [List.length_map, List.length_map]; exact fin
  rw [this]
  exact p
theorem ptsD_ones (zs : List Str) : ptsD (zs.map Pt.one) = zs.map VD.D.str := by unfold ptsD; rw [List.map_map]; rfl
theorem ptsA_ones (zs : List Str) : ptsA (zs.map Pt.one) = zs := by
  unfold ptsA
  induction zs with
  | nil => rfl
  | cons z zs ih => rw [List.map_cons, List.flatMap_cons, ih]; rfl
theorem count_flat {n : Nat} {tp : Bool} {zs : List Str} (hl : zs.length ≤ 2000) : Sh.denN_count_asks (n + 1) [sq tp (zs.map VD.D.str)] = some (.int zs.length, []) := by
  have := count_go (n := n) (tp := tp) (ps := zs.map Pt.one) (by rw [List.length_map]; exact hl) (fun tp zs t h => by obtain ⟨_, _, h⟩ := List.mem_map.mp h; cases h) (P := fun r => r = (.int zs.length, [])) (by rw [ptsA_ones])
  rw [ptsD_ones] at this
  exact this.eq
structure Near (ps : List Pt) : Prop where
  ok : ∀ p ∈ ps, p.ok
  w : (ps.map Pt.w).sum ≤ 1990
  ln : (ptsA ps).length ≤ 400
theorem w_len (ps : List Pt) : ps.length ≤ (ps.map Pt.w).sum := by
  induction ps with
  | nil => exact Nat.le_refl _
  | cons p ps ih =>
    rw [List.map_cons, List.sum_cons, List.length_cons]
    have : 1 ≤ p.w := by cases p <;> simp [Pt.w] <;> omega
    omega
theorem w_mem {ps : List Pt} {p : Pt} (h : p ∈ ps) : p.w ≤ (ps.map Pt.w).sum := by
  induction ps with
  | nil => cases h
  | cons q ps ih =>
    rw [List.map_cons, List.sum_cons]
    rcases List.mem_cons.mp h with rfl | h
    · omega
    · have := ih h; omega
theorem Near.ag {ps : List Pt} (h : Near ps) {tp : Bool} {zs : List Str} {t : Nat} (m : Pt.ag tp zs t ∈ ps) : zs.length ≤ 1990 ∧ t ≤ 1000 ∧ 1 ≤ t ∧ zs ≠ [] ∧ ∀ z ∈ zs, isThingS z = true := by
  have w := w_mem m
  have := h.w
  have hw : (Pt.ag tp zs t).w = 3 + zs.length := rfl
  obtain ⟨k1, k2, k3, k4⟩ := h.ok _ m
  exact ⟨by omega, k4, k3, k1, k2⟩
theorem count_ok {tp : Bool} {ps : List Pt} (h : Near ps) {P : VD.D × List VD.D → Prop} (p : P (.int ((ptsA ps).length : Nat), [])) : OkP (Sh.den_count_asks [sq tp (ptsD ps)]) P := by
  have := w_len ps
  have := h.w
  exact count_go (n := 11) (by omega) (fun tp zs t m => by
    obtain ⟨a, b, _⟩ := h.ag m
    exact ⟨count_flat (n := 10) (by omega), by omega, b⟩) p
theorem check_near_ok {tp : Bool} {ps : List Pt} (h : Near ps) {P : VD.D × List VD.D → Prop} (p : P (.non, [])) : OkP (Sh.den_check_near [sq tp (ptsD ps)]) P := by
  refine okp_def (Nat.le_of_ble_eq_true rfl) ?_
  unfold Sh.body_check_near; dsimp only [padE]
  walk_at "vs"
  refine count_ok h ?_
  walk_at "vc"
  walk_at "vs"
  have := h.ln
  refine br_f (decide_eq_false (by omega)) ?_
  walk_at "vs"
  exact ⟨_, rfl, p⟩
theorem laid_go {n : Nat} {tp : Bool} {ps : List Pt} (hl : (ptsA ps).length ≤ 400) (inner : ∀ tp zs t, Pt.ag tp zs t ∈ ps → Sh.denN_laid_out n [sq tp (zs.map VD.D.str)] = some (.lst (zs.map VD.D.str), []) ∧ t ≤ 1000 ∧ t * zs.length ≤ 400) {P : VD.D × List VD.D → Prop}
    (p : P (.lst ((ptsA ps).map VD.D.str), [])) : OkP (Sh.denN_laid_out (n + 1) [sq tp (ptsD ps)]) P := by
  show OkP (dFn 5 [] (Sh.body_laid_out (Sh.denN_laid_out n)) _) P
  refine okp_def (Nat.le_of_ble_eq_true rfl) ?_
  unfold Sh.body_laid_out; dsimp only [padE]
  walk_at "vs"
  refine ⟨rfl, (by show (0 : Nat) ≤ sizeLine; decide), ?_⟩
  walk_at "vs"
  refine okp_of (seq_sq _ _) ?_
  refine okl_for (fun i e => ∃ w2 w3 w4, e = [some (sq tp (ptsD ps)), some (.lst ((ptsA (ps.take i)).map VD.D.str)), w2, w3, w4]) _ 0 _ ⟨_, _, _, rfl⟩ (fun i d e hi he => ?_) (fun e he => ?_)
  · obtain ⟨w2, w3, w4, rfl⟩ := he
    obtain ⟨q, hq, rfl⟩ := ptsD_at hi
    have hm := List.mem_of_getElem? hq
    have tk : ptsA (ps.take (i + 1)) = ptsA (ps.take i) ++ q.asks := by unfold ptsA; rw [List.take_succ, hq, List.flatMap_append]; simp
    have le : (ptsA (ps.take (i + 1))).length ≤ 400 := by
      have : ptsA ps = ptsA (ps.take (i + 1)) ++ ptsA (ps.drop (i + 1)) := by unfold ptsA; rw [← List.flatMap_append, List.take_append_drop]
      rw [this, List.length_append] at hl
      omega
    rw [tk, List.length_append] at le
    rw [Nat.zero_add, tk, List.map_append]
    refine ⟨_, rfl, ?_⟩
    unfold Sh.bd_laid_out_1
    walk_at "vc"
    walk_at "vs"
    refine op_isi (d_isi q).1 ?_
    rw [(d_isi q).2]
    cases q with
    | one z =>
      walk_at "vs"
      refine ⟨rfl, ?_⟩
      walk_at "vs"
      refine ⟨_, by unfold mAppend; simp only []; rw [if_pos (by rw [Bool.and_eq_true]; exact ⟨rfl, decide_eq_true (Nat.lt_of_le_of_lt (show _ ≤ 400 by rw [List.length_map]; omega) (by decide))⟩)], ?_⟩
      exact ⟨_, _, _, rfl⟩
    | ag tp' zs t =>
      obtain ⟨k1, k2, k3⟩ := inner tp' zs t hm
      walk_at "vs"
      refine ⟨_, rfl, ?_⟩
      walk_at "vs"
      refine okp_of k1 ?_
      walk_at "vc"
      walk_at "vs"
      have er : pRep (.lst (zs.map VD.D.str)) (.int (t : Int)) = some (.lst ((List.replicate t zs).flatten.map VD.D.str)) := by
        unfold pRep
        simp only []
        rw [if_pos, List.map_flatten, List.map_replicate, Int.toNat_natCast]
        rw [decide_eq_true (by omega), decide_eq_true (by omega), List.length_map, Int.toNat_natCast]
        exact decide_eq_true (Nat.le_trans (show _ ≤ 400 by rw [Nat.mul_comm]; exact k3) (by decide))
      refine ⟨_, er, flats_strs _, ?_⟩
      walk_at "vs"
      refine ⟨(.non, (ptsA (ps.take i)).map VD.D.str ++ (List.replicate t zs).flatten.map VD.D.str), ?_, ?_⟩
      · unfold mExtend
        simp only []
        rw [if_pos]
        have : (Pt.ag tp' zs t).asks.length = (List.replicate t zs).flatten.length := rfl
        rw [List.length_map, List.length_map]
        exact decide_eq_true (Nat.le_trans (show _ ≤ 400 by omega) (by decide))
      · walk_at "vc"
        exact ⟨_, _, _, rfl⟩
  · obtain ⟨w2, w3, w4, rfl⟩ := he
    rw [Nat.zero_add, show (ptsD ps).length = ps.length from List.length_map _, List.take_length]
    walk_at "vs"
    exact ⟨_, rfl, p⟩
theorem laid_flat {n : Nat} {tp : Bool} {zs : List Str} (hl : zs.length ≤ 400) : Sh.denN_laid_out (n + 1) [sq tp (zs.map VD.D.str)] = some (.lst (zs.map VD.D.str), []) := by
  have := laid_go (n := n) (tp := tp) (ps := zs.map Pt.one) (by rw [ptsA_ones]; exact hl) (fun tp zs t h => by obtain ⟨_, _, h⟩ := List.mem_map.mp h; cases h) (P := fun r => r = (.lst (zs.map VD.D.str), [])) (by rw [ptsA_ones])
  rw [ptsD_ones] at this
  exact this.eq
theorem asks_le {ps : List Pt} {q : Pt} (h : q ∈ ps) : q.asks.length ≤ (ptsA ps).length := by
  unfold ptsA
  induction ps with
  | nil => cases h
  | cons r ps ih =>
    rw [List.flatMap_cons, List.length_append]
    rcases List.mem_cons.mp h with rfl | h
    · omega
    · have := ih h; omega
theorem laid_ok {tp : Bool} {ps : List Pt} (h : Near ps) {P : VD.D × List VD.D → Prop} (p : P (.lst ((ptsA ps).map VD.D.str), [])) : OkP (Sh.den_laid_out [sq tp (ptsD ps)]) P :=
  laid_go (n := 11) h.ln (fun tp zs t m => by
    obtain ⟨a, b, c, _⟩ := h.ag m
    have l := asks_le m
    have l2 := h.ln
    have e : (Pt.ag tp zs t).asks.length = t * zs.length := by
      show (List.replicate t zs).flatten.length = _
      rw [List.length_flatten, List.map_replicate, List.sum_replicate_nat]
    rw [e] at l
    have z1 : zs.length ≤ t * zs.length := Nat.le_mul_of_pos_left _ (by omega)
    exact ⟨laid_flat (n := 10) (by omega), b, by omega⟩) p
theorem near_ok {tp : Bool} {ps : List Pt} (h : Near ps) {P : VD.D × List VD.D → Prop} (p : P (.lst ((ptsA ps).map VD.D.str), [])) : OkP (Sh.den_near [sq tp (ptsD ps)]) P := by
  refine okp_def (Nat.le_of_ble_eq_true rfl) ?_
  unfold Sh.body_near; dsimp only [padE]
  walk_at "vs"
  refine check_row_ok h.ok h.w ?_
  walk_at "vc"
  walk_at "vs"
  refine check_near_ok h ?_
  walk_at "vc"
  walk_at "vs"
  refine laid_ok h ?_
  walk_at "vc"
  exact ⟨_, rfl, p⟩
theorem Near.flat {zs : List Str} (h : ∀ z ∈ zs, isThingS z = true) (hl : zs.length ≤ 400) : Near (zs.map Pt.one) := by
  refine ⟨fun p hp => ?_, ?_, by rw [ptsA_ones]; exact hl⟩
  · obtain ⟨z, hz, rfl⟩ := List.mem_map.mp hp
    exact h z hz
  · have : ((zs.map Pt.one).map Pt.w).sum = zs.length := by
      rw [List.map_map]
      clear h hl
      induction zs with
      | nil => rfl
      | cons z zs ih => rw [List.map_cons, List.sum_cons, ih, List.length_cons]; show 1 + _ = _; omega
    omega
end VT

set_option Elab.async false
set_option linter.all false
set_option maxRecDepth 100000
set_option maxHeartbeats 4000000
set_option exponentiation.threshold 20000
namespace VD
open PySem PySem.Spec L2 MC
open PyProof.Rows hiding St
theorem while_of {dt : Ev → Option (Bool × Ev)} {body : Ev → Option Out} {Q : Out → Prop} (I : Nat → Ev → Prop) (step : ∀ n e, I n e → Ok (dt e) fun b e1 => (b = true → OkO (body e1) fun o => match o with | .nx e2 => ∃ n', n' < n ∧ I n' e2 | .ct e2 => ∃ n', n' < n ∧ I n' e2 | .bk e2 => Q (.nx e2) | .rt r e2 => Q (.rt r e2)) ∧ (b = false → Q (.nx e1))) :
    ∀ (n : Nat) (e : Ev), I n e → ∃ k o, whileN dt body k e = some o ∧ Q o := by
  intro n
  induction n using Nat.strongRecOn with
  | _ n ih =>
    intro e h
    obtain ⟨b, e1, h1, h2, h3⟩ := step n e h
    cases b with
    | false => exact ⟨1, .nx e1, by unfold whileN; rw [h1], h3 rfl⟩
    | true =>
      obtain ⟨o, h4, h5⟩ := h2 rfl
      cases o with
      | nx e2 =>
        obtain ⟨n', l, i⟩ := h5
        obtain ⟨k, o, h6, h7⟩ := ih n' l e2 i
        exact ⟨k + 1, o, by unfold whileN; rw [h1]; simp only []; rw [h4]; exact h6, h7⟩
      | ct e2 =>
        obtain ⟨n', l, i⟩ := h5
        obtain ⟨k, o, h6, h7⟩ := ih n' l e2 i
        exact ⟨k + 1, o, by unfold whileN; rw [h1]; simp only []; rw [h4]; exact h6, h7⟩
      | bk e2 => exact ⟨1, .nx e2, by unfold whileN; rw [h1]; simp only []; rw [h4], h5⟩
      | rt r e2 => exact ⟨1, .rt r e2, by unfold whileN; rw [h1]; simp only []; rw [h4], h5⟩
end VD
namespace VT
open PySem PySem.Spec L2 MC VD
open PyProof.Rows hiding St
theorem oko_while {dt : Ev → Option (Bool × Ev)} {body : Ev → Option Out} {Q : Out → Prop} (I : Nat → Ev → Prop) {n : Nat} {e : Ev} (h : I n e) (step : ∀ n e, I n e → Ok (dt e) fun b e1 => (b = true → OkO (body e1) fun o => match o with | .nx e2 => ∃ n', n' < n ∧ I n' e2 | .ct e2 => ∃ n', n' < n ∧ I n' e2 | .bk e2 => Q (.nx e2) | .rt r e2 => Q (.rt r e2)) ∧ (b = false → Q (.nx e1))) : OkO (sWhile dt body e) Q := by
  obtain ⟨k, o, h1, h2⟩ := while_of I step n e h
  exact ⟨o, sWhile_some h1, h2⟩
def firstF (P : Nat → Bool) : Nat → Nat → Nat
  | 0, i => i
  | k + 1, i => if P i then firstF P k (i + 1) else i
theorem firstF_spec (P : Nat → Bool) : ∀ k i, i ≤ firstF P k i ∧ firstF P k i ≤ i + k ∧ (∀ m, i ≤ m → m < firstF P k i → P m = true) ∧ (firstF P k i < i + k → P (firstF P k i) = false)
  | 0, i => ⟨Nat.le_refl _, Nat.le_refl _, fun m h1 h2 => by unfold firstF at h2; omega, fun h => by unfold firstF at h; omega⟩
  | k + 1, i => by
    unfold firstF
    split
    · rename_i hp
      obtain ⟨a, b, c, d⟩ := firstF_spec P k (i + 1)
      refine ⟨by omega, by omega, fun m h1 h2 => ?_, fun h => d (by omega)⟩
      by_cases e : m = i
      · rw [e]; exact hp
      · exact c m (by omega) h2
    · rename_i hp
      exact ⟨Nat.le_refl _, by omega, fun m h1 h2 => by omega, fun _ => by simpa using hp⟩
def above (t : Int) : Option Int → Bool
  | none => true
  | some v => decide (t < v)
def predO (xs : List (Option Int)) (g : Int) (m : Nat) : Bool := decide (m + 1 ≤ xs.countP (above ((m : Int) - g)))
def fewO (xs : List (Option Int)) (g : Int) : Nat := firstF (predO xs g) xs.length 0
def depO (xs : List (Option Int)) (g : Int) : Int := max 0 ((fewO xs g : Int) - g)
theorem predO_anti {xs : List (Option Int)} {g : Int} {m m' : Nat} (h : predO xs g m = true) (l : m' ≤ m) : predO xs g m' = true := by
  unfold predO at h ⊢
  rw [decide_eq_true_eq] at h ⊢
  have : xs.countP (above ((m : Int) - g)) ≤ xs.countP (above ((m' : Int) - g)) := by
    refine List.countP_mono_left fun x _ hx => ?_
    cases x with
    | none => rfl
    | some v => unfold above at hx ⊢; rw [decide_eq_true_eq] at hx ⊢; omega
  omega
theorem fewO_spec (xs : List (Option Int)) (g : Int) : fewO xs g ≤ xs.length ∧ (∀ m, m < fewO xs g → predO xs g m = true) ∧ ∀ m, fewO xs g ≤ m → m < xs.length → predO xs g m = false := by
  obtain ⟨a, b, c, d⟩ := firstF_spec (predO xs g) xs.length 0
  refine ⟨by unfold fewO; omega, fun m h => c m (Nat.zero_le _) h, fun m h1 h2 => ?_⟩
  cases e : predO xs g m with
  | false => rfl
  | true =>
    have := predO_anti e h1
    unfold fewO at h1 this
    rw [d (by omega)] at this
    cases this
theorem sorted_count {S : List Int} (h : S.Pairwise (· ≤ ·)) {i m : Nat} (e : i + m + 1 = S.length) (t : Int) : t < S[i]'(by omega) ↔ m + 1 ≤ S.countP fun x => decide (t < x) := by
  have il : i < S.length := by omega
  have sp : S = S.take i ++ S[i] :: S.drop (i + 1) := (List.take_append_drop i S).symm.trans (by rw [List.drop_eq_getElem_cons il])
  have hp := h
  rw [sp, List.pairwise_append] at hp
  obtain ⟨_, p2, p3⟩ := hp
  rw [List.pairwise_cons] at p2
  constructor
  · intro ht
    rw [sp, List.countP_append, List.countP_cons, if_pos (by simpa using ht)]
    have : (S.drop (i + 1)).countP (fun x => decide (t < x)) = (S.drop (i + 1)).length := List.countP_eq_length.mpr fun x hx => by
      have := p2.1 x hx
      simp only [decide_eq_true_eq]; omega
    rw [this, List.length_drop]; omega
  · intro hc
    refine Classical.byContradiction fun hn => ?_
    rw [sp, List.countP_append, List.countP_cons, if_neg (by simpa using hn)] at hc
    have z : (S.take i).countP (fun x => decide (t < x)) = 0 := List.countP_eq_zero.mpr fun x hx => by
      have := p3 x hx S[i] List.mem_cons_self
      simp only [decide_eq_true_eq]; omega
    have := List.countP_le_length (l := S.drop (i + 1)) (p := fun x => decide (t < x))
    rw [List.length_drop] at this
    omega
theorem sortI_perm (ns : List Int) : (sortI ns).Perm ns := List.mergeSort_perm ns _
theorem sortI_sorted (ns : List Int) : (sortI ns).Pairwise (· ≤ ·) := by
  have := List.pairwise_mergeSort (le := fun a b : Int => decide (a ≤ b)) (fun a b c h1 h2 => by simp at *; omega) (fun a b => by simp; omega) ns
  exact this.imp fun h => by simpa using h
def enc (E : Int) : Option Int → Int
  | none => E
  | some v => v
theorem enc_count {E t : Int} (h : t < E) (xs : List (Option Int)) : (xs.map (enc E)).countP (fun x => decide (t < x)) = xs.countP (above t) := by
  rw [List.countP_map]
  refine List.countP_congr fun x _ => ?_
  cases x with
  | none => simp [enc, above, h]
  | some v => rfl
theorem sorted_pred {E g : Int} {xs : List (Option Int)} {i m : Nat} (e : i + m + 1 = xs.length) (h : (m : Int) - g < E) :
    ∃ v, (sortI (xs.map (enc E)))[i]? = some v ∧ (decide ((m : Int) - g < v) = predO xs g m) := by
  have pm := sortI_perm (xs.map (enc E))
  have st := sortI_sorted (xs.map (enc E))
  have ln : (sortI (xs.map (enc E))).length = xs.length := by rw [pm.length_eq, List.length_map]
  have il : i < (sortI (xs.map (enc E))).length := by omega
  refine ⟨(sortI (xs.map (enc E)))[i], List.getElem?_eq_getElem il, ?_⟩
  have := sorted_count st (i := i) (m := m) (by omega) ((m : Int) - g)
  unfold predO
  rw [pm.countP_eq, enc_count h] at this
  rw [Bool.eq_iff_iff, decide_eq_true_eq, decide_eq_true_eq]
  exact this
theorem atI_neg {α : Type} {xs : List α} {m : Nat} (h : m < xs.length) : atI xs (-1 - (m : Int)) = xs[xs.length - 1 - m]? := by
  unfold atI ixN
  rw [if_neg (by omega), if_pos (by omega)]
  show xs[((-1 - (m : Int)) + (xs.length : Nat)).toNat]? = _
  rw [show ((-1 - (m : Int)) + (xs.length : Nat)).toNat = xs.length - 1 - m by omega]
theorem behind_ok {E g : Int} {xs : List (Option Int)} (hE : ∀ m : Nat, m < xs.length → (m : Int) - g < E) (hl : xs.length ≤ 2000) {P : VD.D × List VD.D → Prop} (p : P (.int (depO xs g), [])) : OkP (Sh.den_depth_behind [.lst ((sortI (xs.map (enc E))).map VD.D.int), .int g]) P := by
  have ln : (sortI (xs.map (enc E))).length = xs.length := by rw [(sortI_perm _).length_eq, List.length_map]
  obtain ⟨f1, f2, f3⟩ := fewO_spec xs g
  refine okp_def (Nat.le_of_ble_eq_true rfl) ?_
  unfold Sh.body_depth_behind; dsimp only [padE]
  walk_at "vs"
  rw [List.length_map, ln]
  refine oko_while (fun k e => ∃ (lo hi : Nat) (w : Option VD.D), e = [some (.lst ((sortI (xs.map (enc E))).map VD.D.int)), some (.int g), some (.int (hi : Int)), some (.int (lo : Int)), w] ∧ lo ≤ fewO xs g ∧ fewO xs g ≤ hi ∧ hi ≤ xs.length ∧ k = hi - lo) (n := xs.length) ⟨0, xs.length, none, rfl, Nat.zero_le _, f1, Nat.le_refl _, rfl⟩ fun k e he => ?_
  obtain ⟨lo, hi, w, rfl, h1, h2, h3, rfl⟩ := he
  unfold Sh.bd_depth_behind_2
  walk_at "vs"
  refine ⟨fun hlt => ?_, fun hge => ?_⟩
  · have hlt : lo < hi := by have := of_decide_eq_true hlt; omega
    unfold Sh.bd_depth_behind_1
    walk_at "vs"
    refine op_div' (by rfl) ?_
    have em : ((lo : Int) + hi) / 2 = (((lo + hi) / 2 : Nat) : Int) := by omega
    rw [em]
    have ml : (lo + hi) / 2 < hi := by omega
    have mg : lo ≤ (lo + hi) / 2 := by omega
    generalize (lo + hi) / 2 = m at ml mg
    walk_at "vs"
    refine ⟨_, rfl, ?_⟩
    walk_at "vs"
    obtain ⟨v, hv, hd⟩ := sorted_pred (E := E) (g := g) (xs := xs) (i := xs.length - 1 - m) (m := m) (by omega) (hE m (by omega))
    refine op_ixL (d := .int v) ?_ ?_
    · show atI ((sortI (xs.map (enc E))).map VD.D.int) (-1 - (m : Int)) = _
      rw [atI_neg (by rw [List.length_map, ln]; omega), List.length_map, ln, List.getElem?_map, hv]; rfl
    walk_at "vs"
    rw [hd]
    cases hp : predO xs g m with
    | true =>
      refine br_t rfl ?_
      walk_at "vs"
      refine ⟨hi - (m + 1), by omega, m + 1, hi, _, rfl, ?_, h2, h3, rfl⟩
      refine Classical.byContradiction fun hn => ?_
      have := f3 m (by omega) (by omega)
      rw [hp] at this; cases this
    | false =>
      refine br_f rfl ?_
      walk_at "vs"
      refine ⟨rfl, m - lo, by omega, lo, m, _, rfl, h1, ?_, by omega, rfl⟩
      refine Classical.byContradiction fun hn => ?_
      have := f2 m (by omega)
      rw [hp] at this; cases this
  · have hge : ¬ lo < hi := by have := of_decide_eq_false hge; omega
    have e : lo = fewO xs g := by omega
    subst e
    walk_at "vs"
    exact ⟨_, rfl, p⟩
end VT

set_option Elab.async false
set_option linter.all false
set_option maxRecDepth 100000
set_option maxHeartbeats 4000000
set_option exponentiation.threshold 20000
namespace VT
open PySem PySem.Spec L2 MC VD
open PyProof.Rows hiding St
def oD : Option Int → VD.D
  | none => .non
  | some v => .int v
def putP (l : List (Str × Int)) (z : Str) (i : Int) : List (Str × Int) := if l.any (fun p => decide (p.1 = z)) then l.map (fun p => if p.1 = z then (p.1, i) else p) else l ++ [(z, i)]
theorem put_dctP (l : List (Str × Int)) (z : Str) (i : Int) : putD (dctP l) (.inr z) (.int i) = dctP (putP l z i) := by
  have e : (dctP l).any (fun e => decide (e.1 = Sum.inr z)) = l.any fun p => decide (p.1 = z) := by
    unfold dctP
    rw [List.any_map]
    congr 1
    funext p
    simp [Function.comp]
  unfold putD putP
  rw [e]
  split
  · unfold dctP
    rw [List.map_map, List.map_map]
    refine List.map_congr_left fun p _ => ?_
    simp only [Function.comp, Sum.inr.injEq]
    split <;> rfl
  · unfold dctP; rw [List.map_append]; rfl
theorem findP_put (l : List (Str × Int)) (z y : Str) (i : Int) : findP (putP l z i) y = if y = z then some i else findP l y := by
  have e := look_dctP (putP l z i) y
  have cons : ∀ (p : Str × Int) (l : List (Str × Int)), findP (p :: l) y = if p.1 = y then some p.2 else findP l y := fun p l => by
    unfold findP
    by_cases h : p.1 = y
    · rw [List.find?_cons_of_pos (by simpa using h), if_pos h]; rfl
    · rw [List.find?_cons_of_neg (by simpa using h), if_neg h]
  have app : ∀ l : List (Str × Int), findP (l ++ [(z, i)]) y = match findP l y with | some a => some a | none => if z = y then some i else none := fun l => by
    induction l with
    | nil => rw [List.nil_append, cons]; rfl
    | cons p l ih =>
      rw [List.cons_append, cons, cons]
      split
      · rfl
      · exact ih
  unfold putP
  by_cases ha : l.any (fun p => decide (p.1 = z)) = true
  · rw [if_pos ha]
    clear e app
    induction l with
    | nil => simp at ha
    | cons p l ih =>
      rw [List.map_cons, cons, cons]
      by_cases hp : p.1 = z
      · rw [if_pos hp]
        by_cases hy : y = z
        · rw [if_pos hy, if_pos (by rw [hp, hy])]
        · rw [if_neg hy, if_neg (by rw [hp]; exact fun q => hy q.symm), if_neg (by rw [hp]; exact fun q => hy q.symm)]
          by_cases ha' : l.any (fun p => decide (p.1 = z)) = true
          · rw [ih ha', if_neg hy]
          · have : l.map (fun p => if p.1 = z then (p.1, i) else p) = l := by
              have hn : ∀ q ∈ l, q.1 ≠ z := fun q hq e => ha' (List.any_eq_true.mpr ⟨q, hq, decide_eq_true e⟩)
              have : ∀ q ∈ l, (if q.1 = z then (q.1, i) else q) = q := fun q hq => if_neg (hn q hq)
              exact (List.map_congr_left this).trans (List.map_id _)
            rw [this]
      · rw [if_neg hp]
        have ha' : l.any (fun p => decide (p.1 = z)) = true := by
          rw [List.any_cons, decide_eq_false hp, Bool.false_or] at ha; exact ha
        rw [ih ha']
        by_cases hy : y = z
        · rw [if_pos hy, if_pos hy, if_neg (by rw [hy]; exact hp)]
        · rw [if_neg hy, if_neg hy]
  · rw [if_neg ha, app]
    have hn : findP l z = none := findP_none fun h => by
      obtain ⟨p, hp, e⟩ := List.mem_map.mp h
      exact ha (List.any_eq_true.mpr ⟨p, hp, decide_eq_true e⟩)
    by_cases hy : y = z
    · rw [if_pos hy, hy, hn, if_pos rfl]
    · rw [if_neg hy]
      cases findP l y with
      | some a => rfl
      | none => rw [if_neg (fun q => hy q.symm)]
theorem putP_len (l : List (Str × Int)) (z : Str) (i : Int) : (putP l z i).length ≤ l.length + 1 := by
  unfold putP; split <;> simp
def stepD (g : List (Str × Int)) (s : List (Option Int) × List (Str × Int)) (z : Str) : List (Option Int) × List (Str × Int) :=
  (s.1 ++ [match findP s.2 z with | some j => some (depO (s.1.drop (j.toNat + 1)) (gget g z)) | none => none], putP s.2 z s.1.length)
def depSt (g : List (Str × Int)) (asks : List Str) : List (Option Int) × List (Str × Int) := asks.foldl (stepD g) ([], [])
def depsOf (g : List (Str × Int)) (asks : List Str) : List (Option Int) := (depSt g asks).1
theorem depSt_take {g : List (Str × Int)} {asks : List Str} {i : Nat} {z : Str} (h : asks[i]? = some z) : depSt g (asks.take (i + 1)) = stepD g (depSt g (asks.take i)) z := by
  unfold depSt; rw [List.take_succ, h, List.foldl_append]; rfl
theorem depSt_snoc {g : List (Str × Int)} {asks : List Str} {z : Str} : depSt g (asks ++ [z]) = stepD g (depSt g asks) z := by
  unfold depSt; rw [List.foldl_append]; rfl
theorem depSt_len (g : List (Str × Int)) (asks : List Str) : (depSt g asks).1.length = asks.length ∧ (depSt g asks).2.length ≤ asks.length ∧ ∀ z j, findP (depSt g asks).2 z = some j → 0 ≤ j ∧ j < asks.length := by
  suffices h : ∀ n (asks : List Str), asks.length = n → (depSt g asks).1.length = asks.length ∧ (depSt g asks).2.length ≤ asks.length ∧ ∀ z j, findP (depSt g asks).2 z = some j → 0 ≤ j ∧ j < asks.length from h _ asks rfl
  intro n
  induction n with
  | zero =>
    intro asks h
    have : asks = [] := List.length_eq_zero_iff.mp h
    subst this
    exact ⟨rfl, Nat.le_refl _, fun z j h => by cases h⟩
  | succ n ih =>
    intro asks h
    obtain ⟨as, z, rfl⟩ : ∃ as z, asks = as ++ [z] := ⟨asks.dropLast, asks.getLast (by intro e; rw [e] at h; cases h), (List.dropLast_concat_getLast _).symm⟩
    rw [List.length_append, List.length_singleton] at h
    obtain ⟨h1, h2, h3⟩ := ih as (by omega)
    rw [depSt_snoc]
    unfold stepD
    dsimp only
    refine ⟨by simp [h1], ?_, fun y j hj => ?_⟩
    · have := putP_len (depSt g as).2 z (depSt g as).1.length
      rw [List.length_append, List.length_singleton]; omega
    · rw [findP_put] at hj
      rw [List.length_append, List.length_singleton]
      split at hj
      · cases hj; omega
      · have := h3 y j hj; omega
theorem depO_bd (xs : List (Option Int)) (g : Int) : 0 ≤ depO xs g ∧ depO xs g ≤ max 0 (xs.length - g) := by
  have := (fewO_spec xs g).1
  unfold depO
  omega
theorem cut_to {α : Type} (xs : List α) {k : Int} (h : 0 ≤ k) : VD.cutD xs none (some k) = xs.take k.toNat := by
  unfold VD.cutD
  have e0 : HT.sIx xs.length 0 none = 0 := rfl
  have e1 : HT.sIx xs.length xs.length (some k) = min k.toNat xs.length := by
    show (if k < 0 then (k + (xs.length : Int)).toNat else min k.toNat xs.length) = _
    rw [if_neg (by omega)]
  rw [e0, e1, List.drop_zero, Nat.sub_zero]
  by_cases hl : k.toNat ≤ xs.length
  · rw [Nat.min_eq_left hl]
  · rw [Nat.min_eq_right (by omega), List.take_length, List.take_of_length_le (by omega)]
theorem cut_from {α : Type} (xs : List α) {k : Int} (h : 0 ≤ k) : VD.cutD xs (some k) none = xs.drop k.toNat := by
  unfold VD.cutD
  have e0 : HT.sIx xs.length 0 (some k) = min k.toNat xs.length := by
    show (if k < 0 then (k + (xs.length : Int)).toNat else min k.toNat xs.length) = _
    rw [if_neg (by omega)]
  have e1 : HT.sIx xs.length xs.length none = xs.length := rfl
  rw [e0, e1]
  by_cases hl : k.toNat ≤ xs.length
  · rw [Nat.min_eq_left hl, List.take_of_length_le (by rw [List.length_drop]; omega)]
  · rw [Nat.min_eq_right (by omega), List.drop_length, List.drop_of_length_le (by omega)]; simp
theorem enumD_at {ds : List VD.D} {n i : Nat} {d : VD.D} (h : (enumD n ds)[i]? = some d) : ∃ x, ds[i]? = some x ∧ d = .tup [.int ((n + i : Nat) : Int), x] := by
  induction ds generalizing n i with
  | nil => simp [enumD] at h
  | cons x ds ih =>
    cases i with
    | zero => simp [enumD] at h; exact ⟨x, rfl, by rw [← h]; rfl⟩
    | succ i =>
      simp only [enumD, List.getElem?_cons_succ] at h
      obtain ⟨y, h1, h2⟩ := ih h
      refine ⟨y, by simpa using h1, ?_⟩
      rw [h2, show n + 1 + i = n + (i + 1) by omega]
def lowest (g : List (Str × Int)) : Int := min 0 ((g.map (·.2)).min?.getD 0)
theorem lowest_le (g : List (Str × Int)) (z : Str) : lowest g ≤ gget g z ∧ lowest g ≤ 0 := by
  unfold lowest gget
  refine ⟨?_, by omega⟩
  cases e : findP g z with
  | none => simp only [Option.getD]; omega
  | some a =>
    have hm : a ∈ g.map (·.2) := List.mem_map.mpr ⟨_, findP_mem e, rfl⟩
    cases e2 : (g.map (·.2)).min? with
    | none => rw [List.min?_eq_none_iff] at e2; rw [e2] at hm; cases hm
    | some m =>
      have := (List.min?_eq_some_iff.mp e2).2 a hm
      simp only [Option.getD]; omega
theorem reckoned_ok1 {asks : List Str} {g : List (Str × Int)} (hl : asks.length ≤ 1000) {P : VD.D × List VD.D → Prop} (p : P (.lst ((depsOf g asks).map oD), [])) : OkP (Sh.den_reckoned [.lst (asks.map VD.D.str), .dct (dctP g)]) P := by
  refine okp_def (Nat.le_of_ble_eq_true rfl) ?_
  unfold Sh.body_reckoned; dsimp only [padE]
  walk_at "vs"
  refine ⟨.int ((g.map (·.2)).min?.getD 0), by unfold pMinV; simp only []; rw [vals_dctP, intsOf_map]; rfl, ?_⟩
  walk_at "vs"
  rw [List.length_map]
  have eE : ((asks.length : Nat) : Int) - min 0 ((g.map (·.2)).min?.getD 0) = asks.length - lowest g := rfl
  rw [eE]
  have hE : ∀ z, ∀ m : Nat, m < asks.length → (m : Int) - gget g z < asks.length - lowest g := fun z m hm => by have := lowest_le g z; omega
  generalize hEE : ((asks.length : Nat) : Int) - lowest g = E at hE ⊢
  refine ⟨rfl, (by show (0 : Nat) ≤ sizeLine; decide), ?_⟩
  walk_at "vs"
  refine ⟨enumD 0 (asks.map VD.D.str), rfl, ?_⟩
  refine okl_for (fun i e => ∃ w5 w6 w7, e = [some (.lst (asks.map VD.D.str)), some (.dct (dctP g)), some (.int E), some (.lst (((depSt g (asks.take i)).1.map (enc E)).map VD.D.int)), some (.dct (dctP (depSt g (asks.take i)).2)), w5, w6, w7, none]) _ 0 _ ⟨_, _, _, rfl⟩ (fun i d e hi he => ?_) (fun e he => ?_)
  · obtain ⟨w5, w6, w7, rfl⟩ := he
    obtain ⟨x, hx, rfl⟩ := enumD_at hi
    rw [List.getElem?_map] at hx
    obtain ⟨z, hz, rfl⟩ := Option.map_eq_some_iff.mp hx
    have il := (List.getElem?_eq_some_iff.mp hz).1
    rw [Nat.zero_add, depSt_take hz]
    obtain ⟨k1, k2, k3⟩ := depSt_len g (asks.take i)
    rw [List.length_take, Nat.min_eq_left (by omega)] at k1 k2 k3
    generalize hst : depSt g (asks.take i) = st at k1 k2 k3 ⊢
    refine ⟨_, rfl, ?_⟩
    unfold Sh.bd_reckoned_1
    walk_at "vc"
    walk_at "vs"
    refine op_din (k := .inr z) rfl ?_
    rw [look_dctP]
    have sz : ∀ v : Int, mAppend ((st.1.map (enc E)).map VD.D.int) [.int v] = some (.non, (st.1.map (enc E)).map VD.D.int ++ [.int v]) := fun v => by
      unfold mAppend; simp only []; rw [if_pos (by rw [Bool.and_eq_true]; exact ⟨rfl, decide_eq_true (Nat.lt_of_le_of_lt (show _ ≤ 1000 by rw [List.length_map, List.length_map]; omega) (by decide))⟩)]
    have pz : ∀ e : Ev, isRo (VD.D.int (i : Int)) = false ∧ (dctP st.2).length < sizeLine := fun e => ⟨rfl, Nat.lt_of_le_of_lt (show _ ≤ 1000 by rw [len_dctP]; omega) (by decide)⟩
    cases hf : findP st.2 z with
    | none =>
      walk_at "vs"
      refine ⟨rfl, ?_⟩
      walk_at "vs"
      refine okp_of (sz E) ?_
      walk_at "vc"
      walk_at "vs"
      refine ⟨rfl, ?_⟩
      walk_at "vs"
      refine ⟨_, rfl, (pz []).1, (pz []).2, ?_⟩
      walk_at "vc"
      rw [put_dctP]
      unfold stepD
      rw [hf, k1, List.map_append, List.map_append]
      exact ⟨_, _, _, rfl⟩
    | some j =>
      obtain ⟨j0, j1⟩ := k3 z j hf
      walk_at "vs"
      refine op_dgetk (k := .inr z) (v := .int j) rfl (by rw [look_dctP, hf]; rfl) ?_
      walk_at "vs"
      refine ⟨.lst (((st.1.drop (j.toNat + 1)).map (enc E)).map VD.D.int), ?_, flats_ints _, ?_⟩
      · show some (VD.D.lst (VD.cutD ((st.1.map (enc E)).map VD.D.int) (some (j + 1)) none)) = _
        rw [cut_from _ (by omega), ← List.map_drop, ← List.map_drop, show (j + 1).toNat = j.toNat + 1 by omega]
      walk_at "vs"
      refine ⟨.lst ((sortI ((st.1.drop (j.toNat + 1)).map (enc E))).map VD.D.int), by unfold pSorted listInts; simp only []; rw [intsOf_map]; rfl, flats_ints _, ?_⟩
      walk_at "vs"
      refine ⟨_, rfl, ?_⟩
      rw [look_getD]
      refine ⟨rfl, ?_⟩
      walk_at "vs"
      refine behind_ok (g := gget g z) (fun m hm => hE z m (by rw [List.length_drop] at hm; omega)) (by rw [List.length_drop]; omega) ?_
      walk_at "vc"
      walk_at "vs"
      refine okp_of (sz _) ?_
      walk_at "vc"
      walk_at "vs"
      refine ⟨rfl, ?_⟩
      walk_at "vs"
      refine ⟨_, rfl, (pz []).1, (pz []).2, ?_⟩
      walk_at "vc"
      rw [put_dctP]
      unfold stepD
      rw [hf, k1, List.map_append, List.map_append]
      exact ⟨_, _, _, rfl⟩
  · obtain ⟨w5, w6, w7, rfl⟩ := he
    rw [Nat.zero_add, enumD_len, List.length_map, List.take_length]
    walk_at "vs"
    refine ⟨_, rfl, ?_⟩
    walk_at "vc"
    have ne : ∀ x ∈ depsOf g asks, ∀ v, x = some v → v ≠ E := by
      suffices h : ∀ n, n ≤ asks.length → ∀ x ∈ (depSt g (asks.take n)).1, ∀ v, x = some v → v ≠ E by
        have := h asks.length (Nat.le_refl _)
        rw [List.take_length] at this
        exact this
      intro n
      induction n with
      | zero => intro _ x hx; simp [depSt] at hx
      | succ n ih =>
        intro hn x hx v hv
        have hz : asks[n]? = some asks[n] := List.getElem?_eq_getElem (by omega)
        rw [depSt_take hz] at hx
        unfold stepD at hx
        rcases List.mem_append.mp hx with hx | hx
        · exact ih (by omega) x hx v hv
        · have hx := List.mem_singleton.mp hx
          rw [hv] at hx
          cases hf : findP (depSt g (asks.take n)).2 asks[n] with
          | none => rw [hf] at hx; cases hx
          | some j =>
            rw [hf] at hx
            have e := Option.some.inj hx
            have b := (depO_bd ((depSt g (asks.take n)).1.drop (j.toNat + 1)) (gget g asks[n])).2
            have ll := (depSt_len g (asks.take n)).1
            rw [List.length_drop, ll, List.length_take] at b
            have lw := lowest_le g asks[n]
            intro h
            omega
    have eD : (depSt g asks).1 = depsOf g asks := rfl
    rw [eD]
    have eL : (depsOf g asks).length = asks.length := (depSt_len g asks).1
    generalize depsOf g asks = ds at ne p eL ⊢
    refine ok_in (fun ys e => ys = ds.map oD) ?_ ?_
    · refine Ok.mono (okp_lc (fun b acc e => acc = (ds.take b).map oD ∧ e = [some (.lst (asks.map VD.D.str)), some (.dct (dctP g)), some (.int E), some (.lst ((ds.map (enc E)).map VD.D.int)), some (.dct (dctP (depSt g asks).2)), w5, w6, w7, none]) _ 0 [] _ ⟨rfl, rfl⟩ fun b d acc e hb he => ?_) fun ys e he => ?_
      · obtain ⟨rfl, rfl⟩ := he
        rw [List.getElem?_map, List.getElem?_map, Option.map_map] at hb
        obtain ⟨x, hx, hd⟩ := Option.map_eq_some_iff.mp hb
        have hd : d = VD.D.int (enc E x) := hd.symm
        subst hd
        have hm := List.mem_of_getElem? hx
        refine ⟨_, rfl, ?_⟩
        walk_at "vc"
        rw [Nat.zero_add, List.take_succ, hx, List.map_append]
        walk_at "vs"
        cases x with
        | none =>
          refine br_t (b := decide (enc E none = E)) (decide_eq_true rfl) ?_
          walk_at "vs"
          exact ⟨rfl, rfl, rfl, rfl⟩
        | some v =>
          refine br_f (b := decide (enc E (some v) = E)) (decide_eq_false (ne _ hm v rfl)) ?_
          walk_at "vs"
          exact ⟨rfl, rfl, rfl, rfl⟩
      · obtain ⟨h1, _⟩ := he
        rw [Nat.zero_add, List.length_map, List.length_map, List.take_length] at h1
        simpa using h1
    · rintro ys e1 rfl
      have ll : (ds.map oD).length ≤ 1000 := by
        rw [List.length_map]; omega
      exact ⟨Nat.le_trans ll (by decide), _, rfl, p⟩
end VT

set_option Elab.async false
set_option linter.all false
set_option maxRecDepth 100000
set_option maxHeartbeats 4000000
set_option exponentiation.threshold 20000
namespace VT
open PySem PySem.Spec L2 MC VD
open PyProof.Rows hiding St
theorem e31 : (10 ^ (31 : Int).toNat : Int) = 10 ^ 31 := by decide
theorem depth_of_ok {xs : List (Option Int)} {g : Int} (hg : -(10 ^ 30) ≤ g) (hl : xs.length ≤ 2000) {P : VD.D × List VD.D → Prop} (p : P (.int (depO xs g), [])) : OkP (Sh.den_l_depth_of [.lst (xs.map oD), .int g]) P := by
  have hE : ∀ m : Nat, m < xs.length → (m : Int) - g < 10 ^ 31 := fun m hm => by omega
  refine okp_def (Nat.le_of_ble_eq_true rfl) ?_
  unfold Sh.body_l_depth_of; dsimp only [padE]
  walk_at "vs"
  refine ⟨_, rfl, ?_⟩
  walk_at "vc"
  generalize hL : (10 : Int) ^ 31 = L at hE
  refine ok_in (fun ys e => ys = (xs.map (enc L)).map VD.D.int ∧ e = [some (.lst (xs.map oD)), some (.int g), none, none, none, none]) ?_ ?_
  · refine Ok.mono (okp_lc (fun b acc e => acc = ((xs.take b).map (enc L)).map VD.D.int ∧ e = [some (.lst (xs.map oD)), some (.int g), none, none, none, none]) _ 0 [] _ ⟨rfl, rfl⟩ fun b d acc e hb he => ?_) fun ys e he => ?_
    · obtain ⟨rfl, rfl⟩ := he
      rw [List.getElem?_map] at hb
      obtain ⟨x, hx, rfl⟩ := Option.map_eq_some_iff.mp hb
      rw [Nat.zero_add, List.take_succ, hx, List.map_append, List.map_append]
      cases x with
      | none =>
        refine ⟨_, rfl, ?_⟩
        walk_at "vc"
        walk_at "vs"
        refine op_isn ?_
        walk_at "vs"
        refine op_pow' (by rfl) ?_
        rw [e31, hL]
        exact ⟨rfl, rfl, rfl, rfl⟩
      | some v =>
        refine ⟨_, rfl, ?_⟩
        walk_at "vc"
        walk_at "vs"
        refine op_isn ?_
        walk_at "vs"
        exact ⟨rfl, rfl, rfl, rfl⟩
    · obtain ⟨h1, rfl⟩ := he
      rw [Nat.zero_add, List.length_map, List.take_length] at h1
      exact ⟨by simpa using h1, rfl⟩
  rintro ys e1 ⟨rfl, rfl⟩
  refine ⟨Nat.le_trans (show _ ≤ 2000 by rw [List.length_map, List.length_map]; omega) (by decide), ?_⟩
  walk_at "vs"
  refine ⟨.lst ((sortI (xs.map (enc L))).reverse.map VD.D.int), by unfold pSortedR listInts; simp only []; rw [intsOf_map]; rfl, flats_ints _, ?_⟩
  have ln : (sortI (xs.map (enc L))).length = xs.length := by rw [(sortI_perm _).length_eq, List.length_map]
  obtain ⟨f1, f2, f3⟩ := fewO_spec xs g
  walk_at "vs"
  refine ⟨.int (-1), rfl, ?_⟩
  walk_at "vs"
  refine ⟨.int (-1), rfl, ?_⟩
  walk_at "vs"
  rw [List.length_map, List.length_reverse, ln]
  refine ⟨rangeI (xs.length : Int) (-1) (xs.length + 1), ?_, ?_⟩
  · unfold rng3P
    simp only []
    rw [if_pos]
    · congr 2
    · have h1 : smallB (xs.length : Int) = true := by unfold smallB; simp; omega
      rw [h1]; decide
  refine okl_for (fun i e => ∃ w3 w4, e = [some (.lst (xs.map oD)), some (.int g), some (.lst ((sortI (xs.map (enc L))).reverse.map VD.D.int)), w3, w4, none] ∧ (1 ≤ (fewO xs g : Int) - g → i ≤ xs.length - fewO xs g)) _ 0 _ ⟨_, _, rfl, fun _ => Nat.zero_le _⟩ (fun i d e hi he => ?_) (fun e he => ?_)
  · obtain ⟨w3, w4, rfl, hinv⟩ := he
    have il : i < xs.length + 1 := by have := (List.getElem?_eq_some_iff.mp hi).1; rwa [VD.rangeI_len] at this
    rw [VD.rangeI_at il] at hi
    cases hi
    rw [Nat.zero_add] at hinv ⊢
    have em : (xs.length : Int) + (i : Int) * -1 = ((xs.length - i : Nat) : Int) := by omega
    rw [em]
    obtain ⟨m, hm⟩ : ∃ m, m = xs.length - i := ⟨_, rfl⟩
    rw [← hm]
    refine ⟨_, rfl, ?_⟩
    unfold Sh.bd_l_depth_of_1
    walk_at "vc"
    walk_at "vs"
    have no : (1 ≤ (m : Int) - g → (1 ≤ (fewO xs g : Int) - g) → m ≠ fewO xs g) → True := fun _ => trivial
    refine ⟨fun hd => ?_, fun hd => ?_⟩
    · have hd : 1 ≤ (m : Int) - g := of_decide_eq_true hd
      walk_at "vs"
      by_cases m0 : m = 0
      · subst m0
        refine br_t (decide_eq_true rfl) ?_
        refine br_t rfl ?_
        walk_at "vs"
        refine ⟨rfl, _, rfl, ?_⟩
        have fe : fewO xs g = 0 := by
          refine Classical.byContradiction fun hn => ?_
          have : 1 ≤ (fewO xs g : Int) - g := by omega
          have := hinv this
          omega
        have : depO xs g = ((0 : Nat) : Int) - g := by unfold depO; rw [fe]; omega
        rw [this] at p
        exact p
      · refine br_f (decide_eq_false (by omega)) ?_
        walk_at "vs"
        obtain ⟨v, hv, hp⟩ := sorted_pred (E := L) (g := g) (xs := xs) (i := i) (m := m - 1) (by omega) (hE _ (by omega))
        refine op_ixL (d := .int v) ?_ ?_
        · rw [show (m : Int) - 1 = ((m - 1 : Nat) : Int) by omega]
          refine atI_nat' ?_
          rw [List.getElem?_map, List.getElem?_reverse (by omega), ln, show xs.length - 1 - (m - 1) = i by omega, hv]; rfl
        have eq : decide ((m : Int) - g ≤ v) = predO xs g (m - 1) := by
          rw [← hp, Bool.eq_iff_iff, decide_eq_true_eq, decide_eq_true_eq]
          omega
        walk_at "vs"
        rw [eq]
        cases e : predO xs g (m - 1) with
        | true =>
          refine br_t rfl ?_
          walk_at "vs"
          refine ⟨rfl, _, rfl, ?_⟩
          have le : m ≤ fewO xs g := by
            refine Classical.byContradiction fun hn => ?_
            have := f3 (m - 1) (by omega) (by omega)
            rw [e] at this; cases this
          have := hinv (by omega)
          have fe : fewO xs g = m := by omega
          have : depO xs g = (m : Int) - g := by unfold depO; rw [fe]; omega
          rw [this] at p
          exact p
        | false =>
          refine br_f rfl ?_
          walk_at "vs"
          refine ⟨_, _, rfl, fun hF => ?_⟩
          have gt : fewO xs g < m := by
            refine Classical.byContradiction fun hn => ?_
            have := f2 (m - 1) (by omega)
            rw [e] at this; cases this
          omega
    · have hd : ¬ 1 ≤ (m : Int) - g := of_decide_eq_false hd
      refine br_f rfl ?_
      walk_at "vs"
      refine ⟨_, _, rfl, fun hF => ?_⟩
      have := hinv hF
      omega
  · obtain ⟨w3, w4, rfl, hinv⟩ := he
    rw [Nat.zero_add, VD.rangeI_len] at hinv
    walk_at "vs"
    have : depO xs g = 0 := by
      unfold depO
      refine Int.max_eq_left (Classical.byContradiction fun hn => ?_)
      have := hinv (by omega)
      omega
    rw [this] at p
    exact ⟨_, rfl, p⟩
theorem law_depths_ok1 {asks : List Str} {g : List (Str × Int)} (hl : asks.length ≤ 1000) (hg : ∀ z, -(10 ^ 30) ≤ gget g z) {P : VD.D × List VD.D → Prop} (p : P (.lst ((depsOf g asks).map oD), [])) : OkP (Sh.den_l_depths [.lst (asks.map VD.D.str), .dct (dctP g)]) P := by
  refine okp_def (Nat.le_of_ble_eq_true rfl) ?_
  unfold Sh.body_l_depths; dsimp only [padE]
  walk_at "vs"
  refine ⟨rfl, (by show (0 : Nat) ≤ sizeLine; decide), ?_⟩
  walk_at "vs"
  refine ⟨enumD 0 (asks.map VD.D.str), rfl, ?_⟩
  refine okl_for (fun i e => ∃ w4 w5, e = [some (.lst (asks.map VD.D.str)), some (.dct (dctP g)), some (.lst ((depSt g (asks.take i)).1.map oD)), some (.dct (dctP (depSt g (asks.take i)).2)), w4, w5]) _ 0 _ ⟨_, _, rfl⟩ (fun i d e hi he => ?_) (fun e he => ?_)
  · obtain ⟨w4, w5, rfl⟩ := he
    obtain ⟨x, hx, rfl⟩ := enumD_at hi
    rw [List.getElem?_map] at hx
    obtain ⟨z, hz, rfl⟩ := Option.map_eq_some_iff.mp hx
    have il := (List.getElem?_eq_some_iff.mp hz).1
    rw [Nat.zero_add, depSt_take hz]
    obtain ⟨k1, k2, k3⟩ := depSt_len g (asks.take i)
    rw [List.length_take, Nat.min_eq_left (by omega)] at k1 k2 k3
    generalize depSt g (asks.take i) = st at k1 k2 k3 ⊢
    refine ⟨_, rfl, ?_⟩
    unfold Sh.bd_l_depths_1
    have sz : ∀ v : VD.D, isRo v = false → mAppend (st.1.map oD) [v] = some (.non, st.1.map oD ++ [v]) := fun v hv => by
      unfold mAppend; simp only []; rw [if_pos (by rw [hv, Bool.and_eq_true]; exact ⟨rfl, decide_eq_true (Nat.lt_of_le_of_lt (show _ ≤ 1000 by rw [List.length_map]; omega) (by decide))⟩)]
    have pz : (dctP st.2).length < sizeLine := Nat.lt_of_le_of_lt (show _ ≤ 1000 by rw [len_dctP]; omega) (by decide)
    walk_at "vc"
    walk_at "vs"
    refine op_din (k := .inr z) rfl ?_
    rw [look_dctP]
    cases hf : findP st.2 z with
    | none =>
      walk_at "vs"
      refine okp_of (sz .non rfl) ?_
      walk_at "vc"
      walk_at "vs"
      refine ⟨rfl, ?_⟩
      walk_at "vs"
      refine ⟨_, rfl, rfl, pz, ?_⟩
      walk_at "vc"
      rw [put_dctP]
      unfold stepD
      rw [hf, k1, List.map_append]
      exact ⟨_, _, rfl⟩
    | some j =>
      obtain ⟨j0, j1⟩ := k3 z j hf
      walk_at "vs"
      refine op_dgetk (k := .inr z) (v := .int j) rfl (by rw [look_dctP, hf]; rfl) ?_
      walk_at "vs"
      refine ⟨.lst ((st.1.drop (j.toNat + 1)).map oD), ?_, ?_, ?_⟩
      · show some (VD.D.lst (VD.cutD (st.1.map oD) (some (j + 1)) none)) = _
        rw [cut_from _ (by omega), ← List.map_drop, show (j + 1).toNat = j.toNat + 1 by omega]
      · show flats _ = true
        generalize st.1.drop (j.toNat + 1) = l
        induction l with
        | nil => rfl
        | cons x l ih => rw [List.map_cons, flats, ih]; cases x <;> rfl
      walk_at "vs"
      refine ⟨_, rfl, ?_⟩
      rw [look_getD]
      refine ⟨rfl, ?_⟩
      walk_at "vs"
      refine depth_of_ok (g := gget g z) (hg z) (by rw [List.length_drop]; omega) ?_
      walk_at "vc"
      walk_at "vs"
      refine okp_of (sz _ rfl) ?_
      walk_at "vc"
      walk_at "vs"
      refine ⟨rfl, ?_⟩
      walk_at "vs"
      refine ⟨_, rfl, rfl, pz, ?_⟩
      walk_at "vc"
      rw [put_dctP]
      unfold stepD
      rw [hf, k1, List.map_append]
      exact ⟨_, _, rfl⟩
  · obtain ⟨w4, w5, rfl⟩ := he
    rw [Nat.zero_add, enumD_len, List.length_map, List.take_length]
    walk_at "vs"
    exact ⟨_, rfl, p⟩
end VT

set_option Elab.async false
set_option linter.all false
set_option maxRecDepth 100000
set_option maxHeartbeats 4000000
set_option exponentiation.threshold 20000
namespace VT
open PySem PySem.Spec L2 MC VD
open PyProof.Rows hiding St
theorem e35 : (10 ^ (35 : Int).toNat : Int) = 100000000000000000000000000000000000 := by decide
theorem e39 : (10 ^ (39 : Int).toNat : Int) = 1000000000000000000000000000000000000000 := by decide
theorem powB5 {i : Int} (h1 : -(10 ^ 200) < i) (h2 : i < 10 ^ 200) : powB i 5 = true := by unfold powB; rw [bigB_of h1 h2]; rfl
theorem jar_ok {ns : List Int} {k : Nat} {P : VD.D × List VD.D → Prop} (p : ∀ u, OkU 0 u → P (u, [])) (hk : k ≤ 63) : OkP (Sh.den_l_jar [.ro ns, .int k]) P := by
  refine okp_def (Nat.le_of_ble_eq_true rfl) ?_
  unfold Sh.body_l_jar; dsimp only [padE]
  have fin : ∀ cell : Int, OkU 0 (.lst [.int (max 0 (cell - 1000000000000000000)), .int (cell % (100000000000000000000000000000000000 + 69) * 256 + (k : Nat)), .int 0]) := fun cell => by
    have := mod_bd (x := cell) (m := 100000000000000000000000000000000000 + 69) (by decide)
    exact ⟨_, _, _, rfl, by omega, by omega, by decide, by decide⟩
  refine oko_cut (fun e1 => ∃ c : Int, e1 = [some (.ro ns), some (.int k), some (.int c)]) ?_ ?_
  · walk_at "vs"
    refine ⟨fun h => ?_, fun h => ?_⟩
    · have hk' : k < ns.length := by simpa using h
      walk_at "vs"
      refine ⟨.int ns[k], ?_, rfl, ?_⟩
      · show atI (ns.map D.int) (k : Int) = _
        refine atI_nat' ?_
        simp [hk']
      · exact ⟨_, rfl, _, rfl⟩
    · walk_at "vs"
      exact ⟨rfl, _, rfl, _, rfl⟩
  · rintro e1 ⟨c, rfl⟩
    walk_at "vs"
    refine op_pow' (by rfl) ?_
    rw [e18]
    walk_at "vs"
    refine op_pow' (by rfl) ?_
    rw [e35]
    walk_at "vs"
    refine op_mod' (by decide) ?_
    have := mod_bd (x := c) (m := 100000000000000000000000000000000000 + 69) (by decide)
    walk_at "vs"
    refine op_mul' (mulB_of (a := 200) (b := 10) (Nat.lt_of_lt_of_le (show _ < 10 ^ 50 by omega) (by decide)) (by decide) (by decide) (by decide) (by decide)) ?_
    walk_at "vs"
    exact ⟨rfl, (show (3 : Nat) ≤ sizeLine by decide), _, rfl, p _ (fin c)⟩
theorem pour_ok {N : Nat} {u : VD.D} {m : Int} (hu : OkU N u) (hN : N ≤ 10 ^ 12) (m1 : 0 < m) (m2 : m ≤ 10 ^ 40) {P : VD.D × List VD.D → Prop} (p : ∀ r u', 0 ≤ r → r < m → OkU (N + 1) u' → P (.int r, [u'])) : OkP (Sh.den_l_pour [u, .int m]) P := by
  obtain ⟨a, b, c, rfl, b0, b1, c0, c1⟩ := hu
  refine okp_def (Nat.le_of_ble_eq_true rfl) ?_
  unfold Sh.body_l_pour; dsimp only [padE]
  walk_at "vs"
  refine ⟨fun h => ?_, fun h => ?_⟩
  · walk_at "vs"
    refine op_mod' m1 ?_
    walk_at "vs"
    refine op_div' (divB_of m1 (by omega)) ?_
    walk_at "vs"
    refine ⟨_, _, rfl, rfl, rfl, ?_⟩
    walk_at "vc"
    walk_at "vs"
    exact ⟨rfl, _, rfl, p _ _ (mod_bd m1).1 (mod_bd m1).2 ⟨_, _, _, rfl, b0, b1, c0, by omega⟩⟩
  · walk_at "vs"
    refine ⟨_, _, rfl, rfl, rfl, ?_⟩
    walk_at "vc"
    walk_at "vs"
    refine op_mul' (mulB_of (a := 200) (b := 200) (by decide) (Nat.lt_of_le_of_lt (show _ ≤ 10 ^ 13 by omega) (by decide)) (by decide) (by decide) (by decide)) ?_
    walk_at "vs"
    refine op_pow' (powB3 (by omega) (by omega)) ?_
    generalize (b + 15485863 * (c + 1)) ^ (3 : Int).toNat = w1
    walk_at "vs"
    refine op_pow' (by rfl) ?_
    rw [e37]
    walk_at "vs"
    refine op_mod' (by decide) ?_
    have h1 := mod_bd (x := w1) (m := 10000000000000000000000000000000000000 + 43) (by decide)
    generalize w1 % (10000000000000000000000000000000000000 + 43) = w2 at h1 ⊢
    walk_at "vs"
    refine op_mul' (mulB_of (a := 200) (b := 200) (by decide) (Nat.lt_of_le_of_lt (show _ ≤ 10 ^ 13 by omega) (by decide)) (by decide) (by decide) (by decide)) ?_
    walk_at "vs"
    refine op_pow' (powB5 (by omega) (by omega)) ?_
    generalize (w2 + 32452867 * (c + 1)) ^ (5 : Int).toNat = w4
    walk_at "vs"
    refine op_pow' (by rfl) ?_
    rw [e39]
    walk_at "vs"
    refine op_mod' (by decide) ?_
    have h2 := mod_bd (x := w4) (m := 1000000000000000000000000000000000000000 + 3) (by decide)
    generalize w4 % (1000000000000000000000000000000000000000 + 3) = w5 at h2 ⊢
    walk_at "vs"
    refine op_div' (by rfl) ?_
    walk_at "vs"
    refine op_mod' m1 ?_
    exact ⟨_, rfl, p _ _ (mod_bd m1).1 (mod_bd m1).2 ⟨_, _, _, rfl, b0, b1, by omega, by omega⟩⟩
end VT

set_option Elab.async false
set_option linter.all false
set_option maxRecDepth 100000
set_option maxHeartbeats 4000000
set_option exponentiation.threshold 20000
namespace VT
open PySem PySem.Spec L2 MC VD
open PyProof.Rows hiding St
theorem sgn_facts : ∀ i ∈ List.range 26, small (sgnAt i) = true ∧ (sgnAt i).length = 1 ∧ ∀ n ∈ [1, 2, 3], small (repS (sgnAt i) (n : Nat)) = true ∧ (repS (sgnAt i) (n : Nat)).length = n := by decide +kernel
theorem small_app {a b : Str} (h1 : small a = true) (h2 : small b = true) : small (a ++ b) = true := by
  unfold small at *
  show (a.cps ++ b.cps).toList.all isSign = true
  rw [Array.toList_append, List.all_append, h1, h2]; rfl
theorem len_app (a b : Str) : (a ++ b).length = a.length + b.length := by
  show (a.cps ++ b.cps).size = a.cps.size + b.cps.size
  exact Array.size_append
theorem thing_of {z : Str} (h1 : 1 ≤ z.length) (h2 : z.length ≤ 8) (h3 : small z = true) : isThingS z = true := by
  unfold isThingS
  unfold small at h3
  rw [decide_eq_true h1, decide_eq_true h2, h3]; rfl
theorem ixs_ok {i : Int} (h0 : 0 ≤ i) (h1 : i < 26) {P : VD.D → Prop} (p : P (.str (sgnAt i.toNat))) : OkP (pIxS (.str ("abcdefghijklmnopqrstuvwxyz" : Str)) (.int i)) P := by
  refine ⟨.str (sgnAt i.toNat), ?_, p⟩
  obtain ⟨k, rfl⟩ : ∃ k : Nat, i = k := ⟨i.toNat, by omega⟩
  have hl : k < lets.cps.toList.length := by rw [Array.length_toList, lets_len]; omega
  show (if lets.length ≤ sizeLine then (atI lets.cps.toList ((k : Nat) : Int)).map fun c => D.str ⟨#[c]⟩ else none) = _
  rw [if_pos (by show lets.cps.size ≤ sizeLine; rw [lets_len]; decide), atI_nat' (d := lets.cps.toList.getD k 0) (by rw [List.getD_eq_getElem?_getD, List.getElem?_eq_getElem hl]; rfl)]
  rfl
theorem adds_ok {a b : Str} (h : a.length + b.length ≤ 100) {P : VD.D → Prop} (p : P (.str (a ++ b))) : OkP (pAddS (.str a) (.str b)) P := ⟨_, by unfold pAddS; simp only []; rw [if_pos (Nat.le_trans h (by decide))], p⟩
theorem muls_ok {a : Str} {n : Int} (h1 : 1 ≤ n) (h2 : n ≤ 1000) (h3 : a.length ≤ 1000) (h4 : (repS a n).length ≤ 1000) {P : VD.D → Prop} (p : P (.str (repS a n))) : OkP (pMulS (.str a) (.int n)) P := by
  refine ⟨_, ?_, p⟩
  unfold pMulS
  simp only []
  rw [if_pos]
  rw [decide_eq_true h1, decide_eq_true h2, decide_eq_true h3, decide_eq_true (Nat.le_trans h4 (by decide))]; rfl
theorem named_ok {N : Nat} {u : VD.D} {m : Int} (hu : OkU N u) (hN : N ≤ 10 ^ 11) (m1 : 0 ≤ m) (m2 : m ≤ 60) {P : VD.D × List VD.D → Prop} (p : ∀ (zs : List Str) u', (zs.length : Int) = m → (∀ z ∈ zs, isThingS z = true) → OkU (N + 20) u' → P (.lst (zs.map D.str), [u'])) : OkP (Sh.den_l_named [u, .int m]) P := by
  refine okp_def (Nat.le_of_ble_eq_true rfl) ?_
  unfold Sh.body_l_named; dsimp only [padE]
  walk_at "vs"
  refine pour_ok hu (by omega) (by decide) (by decide) fun r1 u r10 r11 h1 => ?_
  walk_at "vc"
  walk_at "vs"
  refine ⟨rfl, ?_⟩
  walk_at "vs"
  refine pour_ok h1 (by omega) (by decide) (by decide) fun r2 u r20 r21 h1 => ?_
  walk_at "vc"
  walk_at "vs"
  refine ⟨rangeI 0 1 r2.toNat, by unfold rng1P; simp only []; rw [if_pos (by unfold smallB; simp; omega)], ?_⟩
  walk_at "vc"
  refine ok_in (fun ys e => ∃ (u' : VD.D) (ls : List Str), ys = ls.map D.str ∧ e = [some u', some (.int m), some (.str ("abcdefghijklmnopqrstuvwxyz" : Str)), some (.int r1), none, none, none, none] ∧ OkU (N + 10) u' ∧ ls.length ≤ 6 ∧ ∀ l ∈ ls, small l = true ∧ l.length = 1) ?_ ?_
  · refine Ok.mono (okp_lc (fun i acc e => ∃ (u' : VD.D) (ls : List Str), acc = ls.map D.str ∧ e = [some u', some (.int m), some (.str ("abcdefghijklmnopqrstuvwxyz" : Str)), some (.int r1), none, none, none, none] ∧ OkU (N + 1 + 1 + i) u' ∧ ls.length = i ∧ ∀ l ∈ ls, small l = true ∧ l.length = 1) _ 0 [] _ ⟨u, [], rfl, rfl, h1, rfl, by simp⟩ fun i d acc e hi he => ?_) fun ys e he => ?_
    · obtain ⟨u', ls, rfl, rfl, h1, h2, h3⟩ := he
      obtain ⟨rfl, il⟩ := rng_at hi
      refine ⟨_, rfl, ?_⟩
      walk_at "vc"
      walk_at "vs"
      refine pour_ok h1 (by omega) (by decide) (by decide) fun r u r0 r1 h1 => ?_
      walk_at "vc"
      refine ixs_ok r0 r1 ?_
      obtain ⟨k1, k2, _⟩ := sgn_facts r.toNat (List.mem_range.mpr (by omega))
      refine ⟨rfl, u, ls ++ [sgnAt r.toNat], by rw [List.map_append]; rfl, rfl, h1, by rw [List.length_append, h2]; rfl, fun l hl => ?_⟩
      rcases List.mem_append.mp hl with hl | hl
      · exact h3 l hl
      · rw [List.mem_singleton.mp hl]; exact ⟨k1, k2⟩
    · obtain ⟨u', ls, h1, rfl, h2, h3, h4⟩ := he
      rw [rng_len] at h2 h3
      exact ⟨u', ls, by simpa using h1, rfl, h2.mono (by omega), by omega, h4⟩
  rintro ys e1 ⟨u, ls, rfl, rfl, h1, h2, h3⟩
  refine ⟨by rw [List.length_map]; exact Nat.le_trans (show _ ≤ 6 from h2) (by decide), ?_⟩
  walk_at "vs"
  have z0 : ("" : Str).length = 0 := by decide +kernel
  have s6 : (ls.map (·.length)).sum ≤ 1 * ls.length := sum_le fun z hz => by rw [(h3 z hz).2]; exact Nat.le_refl _
  refine ⟨.str (Txt.join ("" : Str) ls), ?_, ?_⟩
  · show (strsOf (ls.map D.str)).bind _ = _
    rw [strsOf_map]
    simp only [Option.bind]
    rw [if_pos (by rw [z0]; omega)]
  have st1 : small (Txt.join ("" : Str) ls) = true := joined_small fun z hz => (h3 z hz).1
  have st2 : (Txt.join ("" : Str) ls).length ≤ 6 := by rw [joined_length]; omega
  generalize Txt.join ("" : Str) ls = stem at st1 st2 ⊢
  walk_at "vs"
  refine ⟨rfl, (by show (0 : Nat) ≤ sizeLine; decide), ?_⟩
  walk_at "vs"
  refine ⟨rangeI 0 1 m.toNat, by unfold rng1P; simp only []; rw [if_pos (by unfold smallB; simp; omega)], ?_⟩
  refine okl_for (fun i e => ∃ w6 w7 zs, e = [some u, some (.int m), some (.str ("abcdefghijklmnopqrstuvwxyz" : Str)), some (.int r1), some (.str stem), some (.lst (zs.map D.str)), w6, w7] ∧ zs.length = i ∧ ∀ z ∈ zs, isThingS z = true) _ 0 _ ⟨_, _, [], rfl, rfl, by simp⟩ (fun i d e hi he => ?_) (fun e he => ?_)
  · obtain ⟨w6, w7, zs, rfl, k1, k2⟩ := he
    obtain ⟨rfl, il⟩ := rng_at hi
    refine ⟨_, rfl, ?_⟩
    unfold Sh.bd_l_named_1
    obtain ⟨a1, a2, a3⟩ := sgn_facts (i % 26) (List.mem_range.mpr (by omega))
    obtain ⟨b1, b2, _⟩ := sgn_facts (i / 26) (List.mem_range.mpr (by omega))
    have a3 := a3 (1 + i / 26) (by have : i / 26 ≤ 2 := by omega
                                   simp only [List.mem_cons, List.not_mem_nil, or_false]; omega)
    walk_at "vc"
    walk_at "vs"
    refine op_mod' (by decide) ?_
    refine ixs_ok (by omega) (by omega) ?_
    rw [show (((i : Nat) : Int) % 26).toNat = i % 26 by omega]
    walk_at "vs"
    refine op_div' (by rfl) ?_
    refine ixs_ok (by omega) (by omega) ?_
    rw [show (((i : Nat) : Int) / 26).toNat = i / 26 by omega]
    refine adds_ok (by omega) ?_
    have c1 := small_app a1 b1
    have c2 := len_app (sgnAt (i % 26)) (sgnAt (i / 26))
    rw [a2, b2] at c2
    generalize sgnAt (i % 26) ++ sgnAt (i / 26) = pair at c1 c2 ⊢
    walk_at "vs"
    refine op_mod' (by decide) ?_
    refine ixs_ok (by omega) (by omega) ?_
    rw [show (((i : Nat) : Int) % 26).toNat = i % 26 by omega]
    walk_at "vs"
    refine op_div' (by rfl) ?_
    walk_at "vs"
    rw [show (1 : Int) + ((i : Nat) : Int) / 26 = ((1 + i / 26 : Nat) : Int) by omega]
    refine muls_ok (by omega) (by omega) (by omega) (by rw [a3.2]; omega) ?_
    generalize repS (sgnAt (i % 26)) ((1 + i / 26 : Nat) : Int) = rp at a3 ⊢
    walk_at "vs"
    refine adds_ok (by omega) ?_
    have d1 := small_app st1 c1
    have d2 := len_app stem pair
    generalize stem ++ pair = x1 at d1 d2 ⊢
    walk_at "vs"
    refine adds_ok (by omega) ?_
    have f1 := small_app c1 st1
    have f2 := len_app pair stem
    generalize pair ++ stem = x2 at f1 f2 ⊢
    walk_at "vs"
    refine ⟨rfl, (by show (3 : Nat) ≤ sizeLine; decide), ?_⟩
    walk_at "vs"
    have hz : ∃ z, atI [D.str rp, .str x1, .str x2] r1 = some (.str z) ∧ isThingS z = true := by
      obtain ⟨d, hd1, hd2⟩ := at_lst (xs := [D.str rp, .str x1, .str x2]) r10 r11
      simp only [List.mem_cons, List.not_mem_nil, or_false] at hd1
      rcases hd1 with rfl | rfl | rfl
      · exact ⟨_, hd2, thing_of (by omega) (by omega) a3.1⟩
      · exact ⟨_, hd2, thing_of (by omega) (by omega) d1⟩
      · exact ⟨_, hd2, thing_of (by omega) (by omega) f1⟩
    obtain ⟨z, hz1, hz2⟩ := hz
    refine op_ixL hz1 ?_
    refine ⟨rfl, ?_⟩
    walk_at "vs"
    refine ⟨_, by unfold mAppend; simp only []; rw [if_pos (by rw [Bool.and_eq_true]; exact ⟨rfl, decide_eq_true (Nat.lt_of_le_of_lt (show _ ≤ 100 by rw [List.length_map]; omega) (by decide))⟩)], ?_⟩
    walk_at "vc"
    refine ⟨_, _, zs ++ [z], by rw [List.map_append]; rfl, by rw [List.length_append, k1]; rfl, fun y hy => ?_⟩
    rcases List.mem_append.mp hy with hy | hy
    · exact k2 y hy
    · rw [List.mem_singleton.mp hy]; exact hz2
  · obtain ⟨w6, w7, zs, rfl, k1, k2⟩ := he
    rw [rng_len] at k1
    walk_at "vs"
    exact ⟨_, rfl, p zs u (by omega) k2 (h1.mono (by omega))⟩
end VT

set_option Elab.async false
set_option linter.all false
set_option maxRecDepth 100000
set_option maxHeartbeats 4000000
set_option exponentiation.threshold 20000
namespace VT
open PySem PySem.Spec L2 MC VD
open PyProof.Rows hiding St
theorem strs_at {zs : List Str} {r : Int} (h0 : 0 ≤ r) (h1 : r < zs.length) : ∃ z ∈ zs, atI (zs.map D.str) r = some (.str z) := by
  obtain ⟨d, k1, k2⟩ := at_lst (xs := zs.map D.str) h0 (by rw [List.length_map]; exact h1)
  obtain ⟨z, hz, rfl⟩ := List.mem_map.mp k1
  exact ⟨z, hz, k2⟩
theorem lay_strs {zs : List Str} (h : ∀ z ∈ zs, isThingS z = true) : PyData.canLayAll0 (pys (zs.map D.str)) = true ∧ PyData.depthAll (pys (zs.map D.str)) = 0 := by
  induction zs with
  | nil => exact ⟨rfl, rfl⟩
  | cons z zs ih =>
    obtain ⟨h1, h2⟩ := ih fun y hy => h y (by simp [hy])
    have hz := h z (by simp)
    refine ⟨?_, ?_⟩
    · show (PyData.canLay0 (.str z) && PyData.canLayAll0 (pys (zs.map D.str))) = true
      rw [h1, Bool.and_true]
      have hs := (thing_len hz).2.2
      show z.cps.all (fun c => decide (c < 0x110000)) = true
      unfold small at hs
      rw [← Array.all_toList]
      rw [List.all_eq_true] at hs ⊢
      intro c hc
      have := hs c hc
      unfold isSign at this
      simp only [Bool.and_eq_true, decide_eq_true_eq] at this ⊢
      omega
    · show max (PyData.depth (.str z)) (PyData.depthAll (pys (zs.map D.str))) = 0
      rw [h2]; rfl
theorem eqOk_strs {zs : List Str} (h : ∀ z ∈ zs, isThingS z = true) : eqOk (.lst (zs.map D.str)) = true := by
  obtain ⟨h1, h2⟩ := lay_strs h
  unfold eqOk SeqAt.shaped
  have e1 : (D.lst (zs.map D.str)).noD = true := noDs_strs zs
  have e2 : PyData.canLay0 (D.lst (zs.map D.str)).py = true := h1
  have e3 : PyData.depth (D.lst (zs.map D.str)).py ≤ 64 := by
    show PyData.depth (.list (pys (zs.map D.str))) ≤ 64
    simp only [PyData.depth, h2]; omega
  rw [e1, e2, decide_eq_true e3]; rfl
theorem eqv_strs (a b : List Str) : PyData.eqv (D.lst (a.map D.str)).py (D.lst (b.map D.str)).py = decide (a = b) := by
  show PyData.eqvAll (pys (a.map D.str)) (pys (b.map D.str)) = decide (a = b)
  induction a generalizing b with
  | nil =>
    cases b with
    | nil => rfl
    | cons z b => rfl
  | cons y a ih =>
    cases b with
    | nil => rfl
    | cons z b =>
      show (PyData.eqv (.str y) (.str z) && PyData.eqvAll (pys (a.map D.str)) (pys (b.map D.str))) = _
      rw [ih]
      have : PyData.eqv (.str y) (.str z) = (y == z) := by simp [PyData.eqv]
      rw [this, Bool.eq_iff_iff]
      simp
theorem eqd_strs {a b : List Str} (ha : ∀ z ∈ a, isThingS z = true) (hb : ∀ z ∈ b, isThingS z = true) {P : D → Prop} (p : P (.bl (decide (a = b)))) : OkP (pEqD (.lst (a.map D.str)) (.lst (b.map D.str))) P :=
  ⟨_, by unfold pEqD; rw [eqOk_strs ha, eqOk_strs hb, eqv_strs]; rfl, p⟩
theorem ned_strs {a b : List Str} (ha : ∀ z ∈ a, isThingS z = true) (hb : ∀ z ∈ b, isThingS z = true) {P : D → Prop} (p : P (.bl (!decide (a = b)))) : OkP (pNeD (.lst (a.map D.str)) (.lst (b.map D.str))) P :=
  ⟨_, by unfold pNeD; rw [eqOk_strs ha, eqOk_strs hb, eqv_strs]; rfl, p⟩
theorem asks_ok {N : Nat} {u : D} {zs : List Str} {m : Int} (hu : OkU N u) (hN : N ≤ 10 ^ 11) (th : ∀ z ∈ zs, isThingS z = true) (z1 : 1 ≤ zs.length) (z2 : zs.length ≤ 100) (m1 : 0 ≤ m) (m2 : m ≤ 400) {P : D × List D → Prop}
    (p : ∀ (as : List Str) u', (as.length : Int) ≤ m → (∀ a ∈ as, a ∈ zs) → OkU (N + 1300) u' → P (.lst (as.map D.str), [u'])) : OkP (Sh.den_l_asks [u, .lst (zs.map D.str), .int m]) P := by
  refine okp_def (Nat.le_of_ble_eq_true rfl) ?_
  unfold Sh.body_l_asks; dsimp only [padE]
  walk_at "vs"
  refine pour_ok hu (by omega) (by decide) (by decide) fun way u y0 y1 h1 => ?_
  walk_at "vc"
  walk_at "vs"
  rw [List.length_map]
  refine pour_ok h1 (by omega) (by omega) (by omega) fun r2 u r20 r21 h1 => ?_
  walk_at "vc"
  walk_at "vs"
  obtain ⟨w, hw⟩ : ∃ w : Nat, 1 + r2 = w := ⟨(1 + r2).toNat, by omega⟩
  rw [hw]
  have w1 : 1 ≤ w := by omega
  have w2 : w ≤ zs.length := by omega
  refine ⟨rfl, (by show (0 : Nat) ≤ sizeLine; decide), ?_⟩
  walk_at "vs"
  refine pour_ok h1 (by omega) (by omega) (by omega) fun r3 u r30 r31 h1 => ?_
  walk_at "vc"
  walk_at "vs"
  refine ⟨rangeI 0 1 r3.toNat, by unfold rng1P; simp only []; rw [if_pos (by unfold smallB; simp; omega)], ?_⟩
  refine okl_for (fun i e => ∃ (u' : D) (as : List Str) (w6 w7 w8 w9 w10 w11 : Option D), e = [some u', some (.lst (zs.map D.str)), some (.int m), some (.int way), some (.int (w : Int)), some (.lst (as.map D.str)), w6, w7, w8, w9, w10, w11] ∧ OkU (N + 3 + 3 * i) u' ∧ as.length = i ∧ ∀ a ∈ as, a ∈ zs) _ 0 _ ⟨u, [], _, _, _, _, _, _, rfl, h1.mono (by omega), rfl, by simp⟩ (fun i d e hi he => ?_) (fun e he => ?_)
  · obtain ⟨u, as, w6, w7, w8, w9, w10, w11, rfl, h1, h2, h3⟩ := he
    obtain ⟨rfl, il⟩ := rng_at hi
    rw [Nat.zero_add] at h1 h2 ⊢
    refine ⟨_, rfl, ?_⟩
    unfold Sh.bd_l_asks_1
    walk_at "vc"
    walk_at "vs"
    refine ⟨rfl, ?_⟩
    walk_at "vs"
    refine pour_ok h1 (by omega) (by omega) (by omega) fun s u s0 s1 h1 => ?_
    obtain ⟨some_, hs1, hs2⟩ := strs_at (zs := zs) s0 (by omega)
    walk_at "vc"
    refine op_ixL hs2 ?_
    refine ⟨rfl, ?_⟩
    walk_at "vd1"
    refine oko_cut (fun e1 => ∃ (u' : D) (late : Str), e1 = [some u', some (.lst (zs.map D.str)), some (.int m), some (.int way), some (.int (w : Int)), some (.lst (as.map D.str)), some (.int (i : Int)), some (.str some_), some (.str late), w9, w10, w11] ∧ OkU (N + 3 + 3 * i + 2) u' ∧ late ∈ zs) ?_ ?_
    · walk_at "vs"
      refine ⟨rfl, (by show (0 : Nat) ≤ sizeLine; decide), ?_⟩
      refine ned_strs (b := []) (fun z hz => th z (h3 z hz)) (by simp) ?_
      walk_at "vs"
      refine ⟨fun hne => ?_, fun _ => ?_⟩
      · have ne : as ≠ [] := by simpa using hne
        have al : 1 ≤ as.length := by cases as with | nil => exact absurd rfl ne | cons _ _ => simp
        walk_at "vs"
        rw [List.length_map]
        refine pour_ok h1 (by omega) (by omega) (by omega) fun q u q0 q1 h1 => ?_
        walk_at "vc"
        obtain ⟨late, hl1, hl2⟩ := strs_at (zs := as) (r := (as.length : Int) - 1 - q) (by omega) (by omega)
        walk_at "vs"
        refine op_ixL hl2 ?_
        exact ⟨rfl, _, rfl, u, late, rfl, h1.mono (by omega), h3 _ hl1⟩
      · walk_at "vs"
        exact ⟨rfl, _, rfl, u, some_, rfl, h1.mono (by omega), hs1⟩
    · rintro e1 ⟨u, late, rfl, h1, hl⟩
      walk_at "vs"
      refine op_mul' (mulB_of (a := 20) (b := 20) (by decide) (Nat.lt_of_le_of_lt (show _ ≤ 200 by omega) (by decide)) (by decide) (by decide) (by decide)) ?_
      walk_at "vs"
      refine op_mod' (by omega) ?_
      walk_at "vs"
      refine ⟨_, rfl, ?_⟩
      walk_at "vs"
      refine op_mod' (by omega) ?_
      generalize (((i : Int) % (2 * (w : Int)) - (w : Int)).natAbs : Int) = x1
      have b1 := mod_bd (x := x1) (m := (w : Int)) (by omega)
      obtain ⟨other, ho1, ho2⟩ := strs_at (zs := zs) (r := x1 % w) b1.1 (by omega)
      refine op_ixL ho2 ?_
      refine ⟨rfl, ?_⟩
      walk_at "vs"
      refine op_mod' (by omega) ?_
      have b2 := mod_bd (x := (i : Int)) (m := (w : Int)) (by omega)
      obtain ⟨loop, hp1, hp2⟩ := strs_at (zs := zs) (r := (i : Int) % w) b2.1 (by omega)
      refine op_ixL hp2 ?_
      refine ⟨rfl, ?_⟩
      walk_at "vs"
      refine pour_ok h1 (by omega) (by decide) (by decide) fun pick u k0 k1 h1 => ?_
      walk_at "vc"
      walk_at "vs"
      refine ⟨rfl, ?_⟩
      walk_at "vs"
      refine ⟨rfl, ?_⟩
      walk_at "vd1"; walk_at "vd1"
      refine ok_in (fun d e => ∃ z, d = .str z ∧ z ∈ zs ∧ e = [some u, some (.lst (zs.map D.str)), some (.int m), some (.int way), some (.int (w : Int)), some (.lst (as.map D.str)), some (.int (i : Int)), some (.str some_), some (.str late), some (.str other), some (.str loop), some (.int pick)]) ?_ ?_
      · walk_at "vs"
        refine ⟨fun _ => ?_, fun _ => ?_⟩
        · walk_at "vs"
          exact ⟨_, rfl, hl, rfl⟩
        · walk_at "vs"
          exact ⟨_, rfl, hs1, rfl⟩
      rintro d e1 ⟨z3, rfl, hz3, rfl⟩
      refine ⟨rfl, ?_⟩
      walk_at "vs"
      refine ⟨rfl, ?_⟩
      walk_at "vd1"; walk_at "vd1"
      refine ok_in (fun d e => ∃ z, d = .str z ∧ z ∈ zs ∧ e = [some u, some (.lst (zs.map D.str)), some (.int m), some (.int way), some (.int (w : Int)), some (.lst (as.map D.str)), some (.int (i : Int)), some (.str some_), some (.str late), some (.str other), some (.str loop), some (.int pick)]) ?_ ?_
      · walk_at "vs"
        refine ⟨fun _ => ?_, fun _ => ?_⟩
        · walk_at "vs"
          exact ⟨_, rfl, hs1, rfl⟩
        · walk_at "vs"
          exact ⟨_, rfl, hp1, rfl⟩
      rintro d e1 ⟨z5, rfl, hz5, rfl⟩
      refine ⟨rfl, ?_⟩
      walk_at "vs"
      refine ⟨rfl, (by show (5 : Nat) ≤ sizeLine; decide), ?_⟩
      walk_at "vs"
      have hz : ∃ z, atI [D.str some_, .str loop, .str z3, .str other, .str z5] way = some (.str z) ∧ z ∈ zs := by
        obtain ⟨d, hd1, hd2⟩ := at_lst (xs := [D.str some_, .str loop, .str z3, .str other, .str z5]) y0 y1
        simp only [List.mem_cons, List.not_mem_nil, or_false] at hd1
        rcases hd1 with rfl | rfl | rfl | rfl | rfl
        · exact ⟨_, hd2, hs1⟩
        · exact ⟨_, hd2, hp1⟩
        · exact ⟨_, hd2, hz3⟩
        · exact ⟨_, hd2, ho1⟩
        · exact ⟨_, hd2, hz5⟩
      obtain ⟨z, hz1, hz2⟩ := hz
      refine op_ixL hz1 ?_
      refine ⟨rfl, ?_⟩
      walk_at "vs"
      refine ⟨_, by unfold mAppend; simp only []; rw [if_pos (by rw [Bool.and_eq_true]; exact ⟨rfl, decide_eq_true (Nat.lt_of_le_of_lt (show _ ≤ 400 by rw [List.length_map]; omega) (by decide))⟩)], ?_⟩
      walk_at "vc"
      refine ⟨u, as ++ [z], _, _, _, _, _, _, by rw [List.map_append]; rfl, h1.mono (by omega), by rw [List.length_append, h2]; rfl, fun a ha => ?_⟩
      rcases List.mem_append.mp ha with ha | ha
      · exact h3 a ha
      · rw [List.mem_singleton.mp ha]; exact hz2
  · obtain ⟨u, as, w6, w7, w8, w9, w10, w11, rfl, h1, h2, h3⟩ := he
    rw [rng_len] at h1 h2
    walk_at "vs"
    exact ⟨_, rfl, p as u (by omega) h3 (h1.mono (by omega))⟩
end VT

set_option Elab.async false
set_option linter.all false
set_option maxRecDepth 100000
set_option maxHeartbeats 4000000
set_option exponentiation.threshold 20000
namespace VT
open PySem PySem.Spec L2 MC VD
open PyProof.Rows hiding St
structure GrB (g : List (Str × Int)) : Prop where
  th : ∀ q ∈ g, isThingS q.1 = true
  ln : g.length ≤ 100
  bd : ∀ q ∈ g, -(10 ^ 29) ≤ q.2 ∧ q.2 ≤ 10 ^ 29
theorem GrB.put {g : List (Str × Int)} {z : Str} {v : Int} (h : GrB g) (hl : g.length < 100) (hz : isThingS z = true) (hv : -(10 ^ 29) ≤ v ∧ v ≤ 10 ^ 29) : GrB (putP g z v) := by
  refine ⟨fun q hq => ?_, Nat.le_trans (putP_len g z v) (by omega), fun q hq => ?_⟩
  · unfold putP at hq
    split at hq
    · obtain ⟨p, hp, rfl⟩ := List.mem_map.mp hq
      split
      · exact h.th p hp
      · exact h.th p hp
    · rcases List.mem_append.mp hq with hq | hq
      · exact h.th q hq
      · rw [List.mem_singleton.mp hq]; exact hz
  · unfold putP at hq
    split at hq
    · obtain ⟨p, hp, rfl⟩ := List.mem_map.mp hq
      split
      · exact hv
      · exact h.bd p hp
    · rcases List.mem_append.mp hq with hq | hq
      · exact h.bd q hq
      · rw [List.mem_singleton.mp hq]; exact hv
theorem GrB.nil : GrB [] := ⟨by simp, by simp, by simp⟩
theorem GrB.gg {g : List (Str × Int)} (h : GrB g) (z : Str) : -(10 ^ 30) ≤ gget g z ∧ gget g z ≤ 10 ^ 30 := by
  unfold gget
  cases e : findP g z with
  | none => simp only [Option.getD]; omega
  | some a => have := h.bd _ (findP_mem e); have : -(10 ^ 29) ≤ a ∧ a ≤ 10 ^ 29 := this; simp only [Option.getD]; omega
theorem GrB.okG {g : List (Str × Int)} (h : GrB g) : OkG g := ⟨h.th, by have := h.ln; omega⟩
theorem GrB.shw {g : List (Str × Int)} (h : GrB g) : Shw g := fun p hp => ⟨h.th p hp, by have := h.bd p hp; omega, by have := h.bd p hp; omega⟩
theorem graced_ok {N : Nat} {u : D} {zs : List Str} (hu : OkU N u) (hN : N ≤ 10 ^ 11) (th : ∀ z ∈ zs, isThingS z = true) (z2 : zs.length ≤ 60) {P : D × List D → Prop}
    (p : ∀ g u', GrB g → g.length ≤ 60 → OkU (N + 300) u' → P (.dct (dctP g), [u'])) : OkP (Sh.den_l_graced [u, .lst (zs.map D.str)]) P := by
  refine okp_def (Nat.le_of_ble_eq_true rfl) ?_
  unfold Sh.body_l_graced; dsimp only [padE]
  walk_at "vs"
  refine pour_ok hu (by omega) (by decide) (by decide) fun way u y0 y1 h1 => ?_
  walk_at "vc"
  walk_at "vs"
  refine ⟨_, rfl, ?_⟩
  refine okl_for (fun i e => ∃ (u' : D) (g : List (Str × Int)) (w4 w5 : Option D), e = [some u', some (.lst (zs.map D.str)), some (.int way), some (.dct (dctP g)), w4, w5] ∧ OkU (N + 1 + 4 * i) u' ∧ GrB g ∧ g.length ≤ i) _ 0 _ ⟨u, [], _, _, rfl, h1, GrB.nil, Nat.le_refl _⟩ (fun i d e hi he => ?_) (fun e he => ?_)
  · obtain ⟨u, g, w4, w5, rfl, h1, h2, h3⟩ := he
    rw [List.getElem?_map] at hi
    obtain ⟨z, hz, rfl⟩ := Option.map_eq_some_iff.mp hi
    have il := (List.getElem?_eq_some_iff.mp hz).1
    rw [Nat.zero_add] at h1 h3 ⊢
    refine ⟨_, rfl, ?_⟩
    unfold Sh.bd_l_graced_1
    refine oko_cut (fun e1 => ∃ (u' : D) (v : Int), e1 = [some u', some (.lst (zs.map D.str)), some (.int way), some (.dct (dctP g)), some (.str z), some (.int v)] ∧ OkU (N + 1 + 4 * i + 3) u' ∧ -(10 ^ 29) ≤ v ∧ v ≤ 10 ^ 29) ?_ ?_
    · walk_at "vc"
      walk_at "vs"
      refine pour_ok h1 (by omega) (by decide) (by decide) fun a u a0 a1 h1 => ?_
      walk_at "vc"
      walk_at "vs"
      refine op_pow' (by rfl) ?_
      rw [e29]
      refine op_mul' (by decide) ?_
      walk_at "vs"
      refine pour_ok h1 (by omega) (by decide) (by decide) fun b u b0 b1 h1 => ?_
      walk_at "vc"
      walk_at "vs"
      refine op_pow' (by rfl) ?_
      rw [e29]
      walk_at "vs"
      refine ⟨rfl, (by show (2 : Nat) ≤ sizeLine; decide), ?_⟩
      have hx : ∀ r : Int, 0 ≤ r → r < 2 → ∃ v, atI [D.int (a - 2), .int (b - 10 ^ 29)] r = some (.int v) ∧ -(10 ^ 29) ≤ v ∧ v ≤ 10 ^ 29 := fun r r0 r1 => by
        obtain ⟨d, hd1, hd2⟩ := at_lst (xs := [D.int (a - 2), .int (b - 10 ^ 29)]) r0 r1
        simp only [List.mem_cons, List.not_mem_nil, or_false] at hd1
        rcases hd1 with rfl | rfl
        · exact ⟨_, hd2, by omega, by omega⟩
        · exact ⟨_, hd2, by omega, by omega⟩
      walk_at "vs"
      refine ⟨fun _ => ?_, fun _ => ?_⟩
      · walk_at "vs"
        refine pour_ok h1 (by omega) (by decide) (by decide) fun c u c0 c1 h1 => ?_
        walk_at "vc"
        walk_at "vs"
        refine ⟨_, rfl, ?_⟩
        obtain ⟨v, v0, v1, v2⟩ := hx (if decide (c = 0) = true then 1 else 0) (by split <;> omega) (by split <;> omega)
        refine op_ixL v0 ?_
        exact ⟨_, rfl, u, v, rfl, h1.mono (by omega), v1, v2⟩
      · walk_at "vs"
        refine ⟨_, rfl, ?_⟩
        obtain ⟨v, v0, v1, v2⟩ := hx 0 (by omega) (by omega)
        refine op_ixL v0 ?_
        exact ⟨_, rfl, u, v, rfl, h1.mono (by omega), v1, v2⟩
    · rintro e1 ⟨u, v, rfl, h1, v1, v2⟩
      walk_at "vs"
      refine ⟨fun _ => ?_, fun _ => ?_⟩
      · walk_at "vs"
        refine pour_ok h1 (by omega) (by decide) (by decide) fun c u c0 c1 h1 => ?_
        walk_at "vc"
        walk_at "vs"
        refine ⟨fun _ => ?_, fun _ => ?_⟩
        · walk_at "vs"
          refine ⟨rfl, ?_⟩
          walk_at "vs"
          refine ⟨_, rfl, rfl, Nat.lt_of_le_of_lt (show _ ≤ 100 by rw [len_dctP]; omega) (by decide), ?_⟩
          walk_at "vc"
          rw [put_dctP]
          have := putP_len g z v
          exact ⟨u, putP g z v, _, _, rfl, h1.mono (by omega), h2.put (by omega) (th z (List.mem_of_getElem? hz)) ⟨v1, v2⟩, by omega⟩
        · walk_at "vs"
          exact ⟨u, g, _, _, rfl, h1.mono (by omega), h2, by omega⟩
      · walk_at "vs"
        exact ⟨u, g, _, _, rfl, h1.mono (by omega), h2, by omega⟩
  · obtain ⟨u, g, w4, w5, rfl, h1, h2, h3⟩ := he
    rw [Nat.zero_add, List.length_map] at h1 h3
    walk_at "vs"
    exact ⟨_, rfl, p g u h2 (by omega) (h1.mono (by omega))⟩
theorem cut_mid {α : Type} (xs : List α) {i j : Nat} (h : i ≤ xs.length) : VD.cutD xs (some (i : Int)) (some (j : Int)) = (xs.drop i).take (j - i) := by
  unfold VD.cutD
  have e0 : HT.sIx xs.length 0 (some (i : Int)) = min i xs.length := HT.sIx_nat _ _ _
  have e1 : HT.sIx xs.length xs.length (some (j : Int)) = min j xs.length := HT.sIx_nat _ _ _
  rw [e0, e1, Nat.min_eq_left h]
  by_cases hj : j ≤ xs.length
  · rw [Nat.min_eq_left hj]
  · rw [Nat.min_eq_right (by omega), List.take_of_length_le (by rw [List.length_drop]; omega), List.take_of_length_le (by rw [List.length_drop]; omega)]
theorem ptsD_app (a b : List Pt) : ptsD (a ++ b) = ptsD a ++ ptsD b := by unfold ptsD; rw [List.map_append]
theorem ptsA_app (a b : List Pt) : ptsA (a ++ b) = ptsA a ++ ptsA b := by unfold ptsA; rw [List.flatMap_append]
theorem take_drop_rep {α : Type} {xs : List α} {i q s : Nat} {pc : List α} (h : (xs.drop i).take (q * s) = (List.replicate q pc).flatten) (h2 : (xs.drop (i + q * s)).take s = pc) : (xs.drop i).take ((q + 1) * s) = (List.replicate (q + 1) pc).flatten := by
  rw [Nat.succ_mul, List.take_add, h, List.drop_drop, h2, List.replicate_succ', List.flatten_append]
  simp
theorem oko_cutK {o : Option Out} {sb : Ev → Option Out} {Q : Out → Prop} (I : Ev → Prop) (h : OkO o fun o => ∃ e1, o = .nx e1 ∧ I e1) (k : ∀ e1, I e1 → OkO (sb e1) Q) : OkO o (seqK sb Q) :=
  h.mono fun o ⟨e1, he, hi⟩ => by subst he; exact k e1 hi
theorem folded_ok {N : Nat} {u : D} {as : List Str} (hu : OkU N u) (hN : N ≤ 10 ^ 11) (th : ∀ z ∈ as, isThingS z = true) (al : as.length ≤ 400) {P : D × List D → Prop}
    (p : ∀ tp ps u', Near ps → ptsA ps = as → (ps.map Pt.w).sum ≤ 4 * as.length → OkU (N + 1300) u' → P (sq tp (ptsD ps), [u'])) : OkP (Sh.den_l_folded [u, .lst (as.map D.str)]) P := by
  refine okp_def (Nat.le_of_ble_eq_true rfl) ?_
  unfold Sh.body_l_folded; dsimp only [padE]
  walk_at "vs"
  refine ⟨rfl, (by show (0 : Nat) ≤ sizeLine; decide), ?_⟩
  walk_at "vd1"; walk_at "vd1"; walk_at "vd1"; walk_at "vd1"; walk_at "vd1"
  refine oko_cut (fun e1 => ∃ (u' : D) (fo : List Pt) (w3 w4 w5 w6 : Option D), e1 = [some u', some (.lst (as.map D.str)), some (.lst (ptsD fo)), w3, w4, w5, w6] ∧ OkU (N + 1201) u' ∧ Near fo ∧ ptsA fo = as ∧ (fo.map Pt.w).sum ≤ 4 * as.length) ?_ ?_
  · refine oko_while (fun k e => ∃ (u' : D) (fo : List Pt) (at_ : Nat) (w4 w5 w6 : Option D), e = [some u', some (.lst (as.map D.str)), some (.lst (ptsD fo)), some (.int (at_ : Int)), w4, w5, w6] ∧ OkU (N + 3 * at_) u' ∧ ptsA fo = as.take at_ ∧ (∀ q ∈ fo, q.ok) ∧ (fo.map Pt.w).sum ≤ 4 * at_ ∧ at_ ≤ as.length ∧ k = as.length - at_) (n := as.length) ⟨u, [], 0, _, _, _, rfl, hu, rfl, by simp, by simp, Nat.zero_le _, rfl⟩ fun k e he => ?_
    obtain ⟨u, fo, at_, w4, w5, w6, rfl, h1, h2, h3, h4, h5, rfl⟩ := he
    unfold Sh.bd_l_folded_4
    walk_at "vs"
    rw [List.length_map]
    refine ⟨fun hlt => ?_, fun hge => ?_⟩
    · have hlt : at_ < as.length := by have := of_decide_eq_true hlt; omega
      refine OkO.mono (Q := fun o => ∃ e2, o = .nx e2 ∧ ∃ (u' : D) (fo' : List Pt) (at' : Nat) (w4 w5 w6 : Option D), e2 = [some u', some (.lst (as.map D.str)), some (.lst (ptsD fo')), some (.int (at' : Int)), w4, w5, w6] ∧ OkU (N + 3 * at') u' ∧ ptsA fo' = as.take at' ∧ (∀ q ∈ fo', q.ok) ∧ (fo'.map Pt.w).sum ≤ 4 * at' ∧ at' ≤ as.length ∧ at_ < at') ?_ (fun o ho => ?_)
      rotate_left
      · obtain ⟨e2, rfl, u', fo', at', w4, w5, w6, rfl, k1, k2, k3, k4, k5, k6⟩ := ho
        exact ⟨as.length - at', by omega, u', fo', at', w4, w5, w6, rfl, k1, k2, k3, k4, k5, rfl⟩
      unfold Sh.bd_l_folded_3
      walk_at "vs"
      refine pour_ok h1 (by omega) (by decide) (by decide) fun r u r0 r1 h1 => ?_
      walk_at "vc"
      have ej : (at_ : Int) + 1 + r = ((at_ + 1 + r.toNat : Nat) : Int) := by omega
      walk_at "vs"
      rw [ej]
      have epc : pSlL (.lst (as.map D.str)) (some (at_ : Int)) (some ((at_ + 1 + r.toNat : Nat) : Int)) = some (.lst (((as.drop at_).take (1 + r.toNat)).map D.str)) := by
        show some (D.lst (VD.cutD (as.map D.str) _ _)) = _
        rw [cut_mid _ (by rw [List.length_map]; omega), ← List.map_drop, ← List.map_take, show at_ + 1 + r.toNat - at_ = 1 + r.toNat by omega]
      refine ⟨_, epc, flats_strs _, ?_⟩
      have s1 : ((as.drop at_).take (1 + r.toNat)).length = min (1 + r.toNat) (as.length - at_) := by rw [List.length_take, List.length_drop]
      have pcm : ∀ z ∈ (as.drop at_).take (1 + r.toNat), isThingS z = true := fun z hz => th z (List.mem_of_mem_drop (List.mem_of_mem_take hz))
      have pcs : (as.drop at_).take ((as.drop at_).take (1 + r.toNat)).length = (as.drop at_).take (1 + r.toNat) := by
        rw [s1, ← List.length_drop]
        by_cases hh : 1 + r.toNat ≤ (as.drop at_).length
        · rw [Nat.min_eq_left hh]
        · rw [Nat.min_eq_right (by omega), List.take_length, List.take_of_length_le (by omega)]
      have s4 : ((as.drop at_).take (1 + r.toNat)).length ≤ 4 := by omega
      have s0 : 1 ≤ ((as.drop at_).take (1 + r.toNat)).length := by omega
      have sle : at_ + ((as.drop at_).take (1 + r.toNat)).length ≤ as.length := by omega
      generalize (as.drop at_).take (1 + r.toNat) = pc at pcm pcs s4 s0 sle ⊢
      clear s1 epc ej
      walk_at "vs"
      rw [List.length_map]
      refine oko_cutK (fun e1 => ∃ (q : Nat), e1 = [some u, some (.lst (as.map D.str)), some (.lst (ptsD fo)), some (.int (at_ : Int)), some (.lst (pc.map D.str)), some (.int (pc.length : Nat)), some (.int ((at_ + q * pc.length : Nat) : Int))] ∧ 1 ≤ q ∧ at_ + q * pc.length ≤ as.length ∧ (as.drop at_).take (q * pc.length) = (List.replicate q pc).flatten) ?_ ?_
      · refine oko_while (fun k e => ∃ (q : Nat), e = [some u, some (.lst (as.map D.str)), some (.lst (ptsD fo)), some (.int (at_ : Int)), some (.lst (pc.map D.str)), some (.int (pc.length : Nat)), some (.int ((at_ + q * pc.length : Nat) : Int))] ∧ 1 ≤ q ∧ at_ + q * pc.length ≤ as.length ∧ (as.drop at_).take (q * pc.length) = (List.replicate q pc).flatten ∧ k = as.length - (at_ + q * pc.length)) (n := as.length - (at_ + 1 * pc.length)) ⟨1, by rw [Nat.one_mul]; rfl, Nat.le_refl _, by omega, by rw [Nat.one_mul, pcs]; simp, rfl⟩ fun k e he => ?_
        obtain ⟨q, rfl, q1, q2, q3, rfl⟩ := he
        unfold Sh.bd_l_folded_2
        walk_at "vs"
        have ej : ((at_ + q * pc.length : Nat) : Int) + (pc.length : Nat) = ((at_ + q * pc.length + pc.length : Nat) : Int) := by omega
        rw [ej]
        have epc : pSlL (.lst (as.map D.str)) (some ((at_ + q * pc.length : Nat) : Int)) (some ((at_ + q * pc.length + pc.length : Nat) : Int)) = some (.lst (((as.drop (at_ + q * pc.length)).take pc.length).map D.str)) := by
          show some (D.lst (VD.cutD (as.map D.str) _ _)) = _
          rw [cut_mid _ (by rw [List.length_map]; omega), ← List.map_drop, ← List.map_take, show at_ + q * pc.length + pc.length - (at_ + q * pc.length) = pc.length by omega]
        refine ⟨_, epc, flats_strs _, ?_⟩
        walk_at "vs"
        refine eqd_strs (fun z hz => th z (List.mem_of_mem_drop (List.mem_of_mem_take hz))) pcm ?_
        walk_at "vs"
        refine ⟨fun he => ?_, fun _ => ?_⟩
        · have he := of_decide_eq_true he
          unfold Sh.bd_l_folded_1
          walk_at "vs"
          rw [ej]
          have hl : at_ + q * pc.length + pc.length ≤ as.length := by
            have := congrArg List.length he
            rw [List.length_take, List.length_drop] at this
            omega
          have es : (q + 1) * pc.length = q * pc.length + pc.length := Nat.succ_mul _ _
          refine ⟨as.length - (at_ + (q + 1) * pc.length), by omega, q + 1, by rw [es, Nat.add_assoc], by omega, by omega, take_drop_rep q3 he, rfl⟩
        · exact ⟨_, rfl, q, rfl, q1, q2, q3⟩
      · rintro e1 ⟨q, rfl, q1, q2, q3⟩
        have qs : pc.length ≤ q * pc.length := Nat.le_mul_of_pos_left _ (by omega)
        have q400 : q ≤ 400 := by
          have : q ≤ q * pc.length := Nat.le_mul_of_pos_right _ (by omega)
          omega
        have goA : ∀ u, OkU (N + 3 * at_ + 2) u → OkO (sSeq (sAppS 2 [] (VD.dTup (aCons (VD.d2 pIx (VD.dLst (aCons (dFl (dL pTuple (aCons (dVar 4) aNil))) (aCons (dVar 4) aNil))) (dCall (Sh.den_l_pour) [0] [] (aOwn 0 (aCons (dC (.int 2)) aNil)))) (aCons (VD.d2 pDiv (VD.d2 pSub (dVar 6) (dVar 3)) (dVar 5)) aNil)))) (sSet 3 (dFl (dVar 6))) [some u, some (.lst (as.map D.str)), some (.lst (ptsD fo)), some (.int (at_ : Int)), some (.lst (pc.map D.str)), some (.int (pc.length : Nat)), some (.int ((at_ + q * pc.length : Nat) : Int))]) (fun o => ∃ e2, o = .nx e2 ∧ ∃ (u' : D) (fo' : List Pt) (at' : Nat) (w4 w5 w6 : Option D), e2 = [some u', some (.lst (as.map D.str)), some (.lst (ptsD fo')), some (.int (at' : Int)), w4, w5, w6] ∧ OkU (N + 3 * at') u' ∧ ptsA fo' = as.take at' ∧ (∀ q ∈ fo', q.ok) ∧ (fo'.map Pt.w).sum ≤ 4 * at' ∧ at' ≤ as.length ∧ at_ < at') := fun u h1 => by
          walk_at "vs"
          refine ⟨.tup (pc.map D.str), rfl, flats_strs _, ?_⟩
          walk_at "vs"
          refine ⟨rfl, (by show (2 : Nat) ≤ sizeLine; decide), ?_⟩
          walk_at "vs"
          refine pour_ok h1 (by omega) (by decide) (by decide) fun c u c0 c1 h1 => ?_
          walk_at "vc"
          have hz : ∃ tp, atI [D.tup (pc.map D.str), .lst (pc.map D.str)] c = some (sq tp (pc.map D.str)) := by
            obtain ⟨d, hd1, hd2⟩ := at_lst (xs := [D.tup (pc.map D.str), .lst (pc.map D.str)]) c0 c1
            simp only [List.mem_cons, List.not_mem_nil, or_false] at hd1
            rcases hd1 with rfl | rfl
            · exact ⟨true, hd2⟩
            · exact ⟨false, hd2⟩
          obtain ⟨tp, htp⟩ := hz
          refine op_ixL htp ?_
          walk_at "vs"
          refine op_div' (divB_of (by omega) (by omega)) ?_
          have ed : (((at_ + q * pc.length : Nat) : Int) - at_) / (pc.length : Nat) = (q : Int) := by
            rw [show (((at_ + q * pc.length : Nat) : Int) - at_) = (q : Int) * (pc.length : Nat) by rw [Int.natCast_add, Int.natCast_mul]; omega]
            exact Int.mul_ediv_cancel _ (by omega)
          rw [ed]
          walk_at "vs"
          refine ⟨by show noRo [sq tp (pc.map D.str), .int q] = true; cases tp <;> rfl, (by show (2 : Nat) ≤ sizeLine; decide), ?_⟩
          walk_at "vs"
          refine ⟨rfl, Nat.lt_of_le_of_lt (show _ ≤ 4 * at_ by have := w_len fo; rw [show (ptsD fo).length = fo.length from List.length_map _]; omega) (Nat.lt_of_le_of_lt (show 4 * at_ ≤ 1600 by omega) (by decide)), ?_⟩
          walk_at "vc"
          walk_at "vs"
          refine ⟨rfl, _, rfl, u, fo ++ [.ag tp pc q], at_ + q * pc.length, _, _, _, by rw [ptsD_app]; rfl, h1.mono (by omega), ?_, fun x hx => ?_, ?_, q2, by omega⟩
          · rw [ptsA_app, h2, List.take_add, q3]
            show _ ++ ((List.replicate q pc).flatten ++ []) = _
            rw [List.append_nil]
          · rcases List.mem_append.mp hx with hx | hx
            · exact h3 x hx
            · rw [List.mem_singleton.mp hx]
              exact ⟨by intro e; rw [e] at s0; simp at s0, pcm, q1, by omega⟩
          · rw [List.map_append, List.sum_append]
            show _ + (3 + pc.length + 0) ≤ _
            omega
        walk_at "vs"
        refine ⟨fun _ => ?_, fun _ => ?_⟩
        · refine br_t rfl ?_
          exact goA u (h1.mono (by omega))
        have goB : ∀ u, OkU (N + 3 * at_ + 2) u → OkO (sSeq (sDo (dMutL mAppend 2 [] (aCons (dFl (VD.d2 pIx (dVar 1) (dVar 3))) aNil))) (sSet 3 (VD.d2 pAdd (dVar 3) (dC (.int 1)))) [some u, some (.lst (as.map D.str)), some (.lst (ptsD fo)), some (.int (at_ : Int)), some (.lst (pc.map D.str)), some (.int (pc.length : Nat)), some (.int ((at_ + q * pc.length : Nat) : Int))]) (fun o => ∃ e2, o = .nx e2 ∧ ∃ (u' : D) (fo' : List Pt) (at' : Nat) (w4 w5 w6 : Option D), e2 = [some u', some (.lst (as.map D.str)), some (.lst (ptsD fo')), some (.int (at' : Int)), w4, w5, w6] ∧ OkU (N + 3 * at') u' ∧ ptsA fo' = as.take at' ∧ (∀ q ∈ fo', q.ok) ∧ (fo'.map Pt.w).sum ≤ 4 * at' ∧ at' ≤ as.length ∧ at_ < at') := fun u h1 => by
          walk_at "vs"
          refine op_ixL (d := .str as[at_]) (atI_nat' (by rw [List.getElem?_map, List.getElem?_eq_getElem hlt]; rfl)) ?_
          refine ⟨rfl, ?_⟩
          walk_at "vs"
          refine ⟨_, by unfold mAppend; simp only []; rw [if_pos (by rw [Bool.and_eq_true]; exact ⟨rfl, decide_eq_true (Nat.lt_of_le_of_lt (show _ ≤ 4 * at_ by have := w_len fo; rw [show (ptsD fo).length = fo.length from List.length_map _]; omega) (Nat.lt_of_le_of_lt (show 4 * at_ ≤ 1600 by omega) (by decide)))⟩)], ?_⟩
          walk_at "vc"
          walk_at "vs"
          refine ⟨_, rfl, u, fo ++ [.one as[at_]], at_ + 1, _, _, _, by rw [ptsD_app]; rfl, h1.mono (by omega), ?_, fun x hx => ?_, ?_, by omega, by omega⟩
          · rw [ptsA_app, h2, List.take_succ, List.getElem?_eq_getElem hlt]; rfl
          · rcases List.mem_append.mp hx with hx | hx
            · exact h3 x hx
            · rw [List.mem_singleton.mp hx]
              exact th _ (List.getElem_mem hlt)
          · rw [List.map_append, List.sum_append]
            show _ + (1 + 0) ≤ _
            omega
        walk_at "vs"
        refine ⟨fun _ => ?_, fun _ => ?_⟩
        · walk_at "vs"
          refine pour_ok h1 (by omega) (by decide) (by decide) fun c u c0 c1 h1 => ?_
          walk_at "vc"
          walk_at "vs"
          refine ⟨fun _ => ?_, fun _ => ?_⟩
          · exact goA u (h1.mono (by omega))
          · exact goB u (h1.mono (by omega))
        · exact ⟨fun h => Bool.noConfusion h, fun _ => goB u (h1.mono (by omega))⟩
    · have hge : ¬ at_ < as.length := by have := of_decide_eq_false hge; omega
      have e : at_ = as.length := by omega
      subst e
      rw [List.take_length] at h2
      exact ⟨_, rfl, u, fo, _, _, _, _, rfl, h1.mono (by omega), ⟨h3, by omega, by rw [h2]; exact al⟩, h2, h4⟩
  · rintro e1 ⟨u, fo, w3, w4, w5, w6, rfl, h1, h2, h3, h4⟩
    walk_at "vs"
    refine ⟨_, rfl, ?_⟩
    walk_at "vs"
    refine ⟨rfl, (by show (2 : Nat) ≤ sizeLine; decide), ?_⟩
    walk_at "vs"
    refine pour_ok h1 (by omega) (by decide) (by decide) fun c u c0 c1 h1 => ?_
    walk_at "vc"
    have hz : ∃ tp, atI [D.lst (ptsD fo), .tup (ptsD fo)] c = some (sq tp (ptsD fo)) := by
      obtain ⟨d, hd1, hd2⟩ := at_lst (xs := [D.lst (ptsD fo), .tup (ptsD fo)]) c0 c1
      simp only [List.mem_cons, List.not_mem_nil, or_false] at hd1
      rcases hd1 with rfl | rfl
      · exact ⟨false, hd2⟩
      · exact ⟨true, hd2⟩
    obtain ⟨tp, htp⟩ := hz
    refine op_ixL htp ?_
    exact ⟨_, rfl, p tp fo u h2 h3 h4 (h1.mono (by omega))⟩
end VT

set_option Elab.async false
set_option linter.all false
set_option maxRecDepth 100000
set_option maxHeartbeats 4000000
set_option exponentiation.threshold 20000
namespace VT
open PySem PySem.Spec L2 MC VD
open PyProof.Rows hiding St
theorem oksS_strs {zs : List Str} (h : ∀ z ∈ zs, isThingS z = true) : oksS (zs.map VD.D.str) = true := by
  induction zs with
  | nil => rfl
  | cons z zs ih =>
    show ((D.str z).okS && oksS (zs.map VD.D.str)) = true
    rw [ih fun y hy => h y (by simp [hy]), thing_okS (h z (by simp))]; rfl
theorem ws_strs (zs : List Str) : ws (zs.map VD.D.str) = zs.length := by
  induction zs with
  | nil => rfl
  | cons z zs ih => show 1 + ws (zs.map VD.D.str) = _; rw [ih, List.length_cons]; omega
theorem dps_strs (zs : List Str) : dps (zs.map VD.D.str) = 0 := by
  induction zs with
  | nil => rfl
  | cons z zs ih => show max 0 (dps (zs.map VD.D.str)) = _; rw [ih]; rfl
theorem okS_sq (tp : Bool) (xs : List VD.D) : (sq tp xs).okS = oksS xs := by cases tp <;> rfl
theorem w_sq (tp : Bool) (xs : List VD.D) : (sq tp xs).w = 1 + ws xs := by cases tp <;> rfl
theorem dp_sq (tp : Bool) (xs : List VD.D) : (sq tp xs).dp' = dps xs + 1 := by cases tp <;> rfl
theorem pt_shw {p : Pt} (h : p.ok) : p.d.okS = true ∧ p.d.w = p.w ∧ p.d.dp' ≤ 2 := by
  cases p with
  | one z => exact ⟨thing_okS h, rfl, Nat.zero_le _⟩
  | ag tp zs t =>
    obtain ⟨h1, h2, h3, h4⟩ := h
    refine ⟨?_, ?_, ?_⟩
    · show ((sq tp (zs.map VD.D.str)).okS && ((D.int (t : Int)).okS && true)) = true
      rw [okS_sq, oksS_strs h2, okS_int (by omega) (by omega)]; rfl
    · show 1 + ((sq tp (zs.map VD.D.str)).w + (1 + 0)) = 3 + zs.length
      rw [w_sq, ws_strs]; omega
    · show max (sq tp (zs.map VD.D.str)).dp' (max 0 0) + 1 ≤ 2
      rw [dp_sq, dps_strs]; decide
theorem pts_shw {ps : List Pt} (h : ∀ p ∈ ps, p.ok) : oksS (ptsD ps) = true ∧ ws (ptsD ps) = (ps.map Pt.w).sum ∧ dps (ptsD ps) ≤ 2 := by
  induction ps with
  | nil => exact ⟨rfl, rfl, Nat.zero_le _⟩
  | cons p ps ih =>
    obtain ⟨a, b, c⟩ := ih fun y hy => h y (by simp [hy])
    obtain ⟨d, e, f⟩ := pt_shw (h p (by simp))
    refine ⟨?_, ?_, ?_⟩
    · show (p.d.okS && oksS (ptsD ps)) = true
      rw [a, d]; rfl
    · show p.d.w + ws (ptsD ps) = _
      rw [b, e, List.map_cons, List.sum_cons]
    · show max p.d.dp' (dps (ptsD ps)) ≤ 2
      exact dp_le_of f c
theorem show_row {tp : Bool} {ps : List Pt} {g : List (Str × Int)} (h : ∀ p ∈ ps, p.ok) (hw : (ps.map Pt.w).sum ≤ 1700) (hg : Shw g) (gl : g.length ≤ 100) : showOk (.lst [sq tp (ptsD ps), .dct (dctP g)]) = true := by
  obtain ⟨a, b, c⟩ := pts_shw h
  refine show_of ?_ ?_ ?_
  · show ((sq tp (ptsD ps)).okS && (okkS (dctP g) && true)) = true
    rw [okS_sq, a, okkS_dctP hg]; rfl
  · show 1 + ((sq tp (ptsD ps)).w + ((1 + wk (dctP g)) + 0)) ≤ 2000
    rw [w_sq, b, wk_dctP]; omega
  · show max (sq tp (ptsD ps)).dp' (max (dpk (dctP g) + 1) 0) + 1 ≤ 100
    have := dpk_dctP g
    rw [dp_sq]; omega
def DepB (xs : List (Option Int)) : Prop := ∀ v, some v ∈ xs → 0 ≤ v ∧ v ≤ 10 ^ 31
theorem deps_bd {g : List (Str × Int)} (hg : ∀ z, -(10 ^ 30) ≤ gget g z) {asks : List Str} (hl : asks.length ≤ 2000) : DepB (depsOf g asks) := by
  suffices h : ∀ n (asks : List Str), asks.length = n → n ≤ 2000 → DepB (depSt g asks).1 from h _ asks rfl hl
  intro n
  induction n with
  | zero =>
    intro asks h _
    have : asks = [] := List.length_eq_zero_iff.mp h
    subst this
    intro v hv; cases hv
  | succ n ih =>
    intro asks h hn
    obtain ⟨as, z, rfl⟩ : ∃ as z, asks = as ++ [z] := ⟨asks.dropLast, asks.getLast (by intro e; rw [e] at h; cases h), (List.dropLast_concat_getLast _).symm⟩
    rw [List.length_append, List.length_singleton] at h
    rw [depSt_snoc]
    unfold stepD
    dsimp only
    intro v hv
    rcases List.mem_append.mp hv with hv | hv
    · exact ih as (by omega) (by omega) v hv
    · have hv := List.mem_singleton.mp hv
      split at hv
      · rename_i j hj
        cases hv
        have h1 := depO_bd ((depSt g as).1.drop (j.toNat + 1)) (gget g z)
        have h2 := (depSt_len g as).1
        have h3 := hg z
        rw [List.length_drop] at h1
        omega
      · cases hv
theorem deps_len (g : List (Str × Int)) (asks : List Str) : (depsOf g asks).length = asks.length := (depSt_len g asks).1
theorem dep_shw {xs : List (Option Int)} (h : DepB xs) : oksS (xs.map oD) = true ∧ ws (xs.map oD) = xs.length ∧ dps (xs.map oD) = 0 := by
  induction xs with
  | nil => exact ⟨rfl, rfl, rfl⟩
  | cons x xs ih =>
    obtain ⟨a, b, c⟩ := ih fun v hv => h v (by simp [hv])
    refine ⟨?_, ?_, ?_⟩
    · show ((oD x).okS && oksS (xs.map oD)) = true
      rw [a]
      cases x with
      | none => rfl
      | some v =>
        have := h v (by simp)
        show ((D.int v).okS && true) = true
        rw [okS_int (by omega) (by omega)]; rfl
    · show (oD x).w + ws (xs.map oD) = _
      rw [b, List.length_cons]
      cases x <;> (simp only [oD, D.w]; omega)
    · show max (oD x).dp' (dps (xs.map oD)) = 0
      rw [c]
      cases x <;> rfl
theorem flats_deps (xs : List (Option Int)) : flats (xs.map oD) = true := by
  induction xs with
  | nil => rfl
  | cons x xs ih => rw [List.map_cons, flats, ih]; cases x <;> rfl
end VT

set_option Elab.async false
set_option linter.all false
set_option maxRecDepth 100000
set_option maxHeartbeats 4000000
set_option exponentiation.threshold 20000
namespace VT
open PySem PySem.Spec L2 MC VD
open PyProof.Rows hiding St
def cntO (xs : List (Option Int)) (t : Int) : Nat := xs.countP (above t)
theorem cntO_app (xs ys : List (Option Int)) (t : Int) : cntO (xs ++ ys) t = cntO xs t + cntO ys t := List.countP_append
theorem cntO_one (x : Option Int) (t : Int) : cntO [x] t ≤ 1 := List.countP_le_length
theorem cntO_mono (xs : List (Option Int)) {t t' : Int} (h : t ≤ t') : cntO xs t' ≤ cntO xs t := by
  refine List.countP_mono_left fun x _ hx => ?_
  cases x with
  | none => rfl
  | some v => unfold above at hx ⊢; rw [decide_eq_true_eq] at hx ⊢; omega
theorem few_le {xs ys : List (Option Int)} {g : Int} (h : ∀ t, cntO xs t ≤ cntO ys t) : fewO xs g ≤ fewO ys g := by
  refine Classical.byContradiction fun hn => ?_
  obtain ⟨_, f2, _⟩ := fewO_spec xs g
  obtain ⟨_, _, f3⟩ := fewO_spec ys g
  have h1 := of_decide_eq_true (f2 (fewO ys g) (by omega))
  have h2 : fewO ys g + 1 ≤ cntO ys ((fewO ys g : Int) - g) := Nat.le_trans h1 (h _)
  have h3 : cntO ys ((fewO ys g : Int) - g) ≤ ys.length := List.countP_le_length
  have h4 := f3 (fewO ys g) (Nat.le_refl _) (by omega)
  exact of_decide_eq_false h4 h2
theorem few_le1 {xs ys : List (Option Int)} {g : Int} (h : ∀ t, cntO xs (t + 1) ≤ cntO ys t + 1) : fewO xs g ≤ fewO ys g + 1 := by
  refine Classical.byContradiction fun hn => ?_
  obtain ⟨_, f2, _⟩ := fewO_spec xs g
  obtain ⟨_, _, f3⟩ := fewO_spec ys g
  have h1 := of_decide_eq_true (f2 (fewO ys g + 1) (by omega))
  have e : (((fewO ys g + 1 : Nat) : Int) - g) = ((fewO ys g : Int) - g) + 1 := by omega
  have h2 : fewO ys g + 1 + 1 ≤ cntO xs (((fewO ys g : Int) - g) + 1) := by rw [← e]; exact h1
  have h3 := h ((fewO ys g : Int) - g)
  have h5 : cntO ys ((fewO ys g : Int) - g) ≤ ys.length := List.countP_le_length
  have h4 := f3 (fewO ys g) (Nat.le_refl _) (by omega)
  exact of_decide_eq_false h4 (show fewO ys g + 1 ≤ cntO ys ((fewO ys g : Int) - g) by omega)
theorem dep_le {xs ys : List (Option Int)} {g : Int} (h : ∀ t, cntO xs t ≤ cntO ys t) : depO xs g ≤ depO ys g := by
  have := few_le (g := g) h
  unfold depO; omega
theorem dep_le1 {xs ys : List (Option Int)} {g : Int} (h : ∀ t, cntO xs (t + 1) ≤ cntO ys t + 1) : depO xs g ≤ depO ys g + 1 := by
  have := few_le1 (g := g) h
  unfold depO; omega
def Lq : Option Int → Option Int → Prop
  | _, none => True
  | some a, some b => a ≤ b + 1
  | none, some _ => False
def W1 (d e : Option Int) : Prop := Lq d e ∧ Lq e d
theorem Lq.cnt {e d : Option Int} (h : Lq e d) (t : Int) : cntO [e] (t + 1) ≤ cntO [d] t := by
  have c1 := cntO_one e (t + 1)
  cases d with
  | none => exact c1
  | some b =>
    cases e with
    | none => exact h.elim
    | some a =>
      have h : a ≤ b + 1 := h
      unfold cntO
      rw [List.countP_singleton, List.countP_singleton]
      unfold above
      by_cases hb : t < b
      · have h1 : decide (t < b) = true := decide_eq_true hb
        simp only [h1, if_true]; split <;> decide
      · have h1 : decide (t + 1 < a) = false := decide_eq_false (by omega)
        simp only [h1]; exact Nat.zero_le _
def Win (a b : Nat) (X X' : List (Option Int)) : Prop := ∀ t, cntO X' (t + 1) ≤ cntO X t + a ∧ cntO X (t + 1) ≤ cntO X' t + b
theorem Win.push {a b : Nat} {X X' : List (Option Int)} {d e : Option Int} (h : Win a b X X') (w : W1 d e) : Win a b (X ++ [d]) (X' ++ [e]) := fun t => by
  rw [cntO_app, cntO_app, cntO_app, cntO_app]
  have h1 := h t
  have h2 := w.1.cnt t
  have h3 := w.2.cnt t
  omega
theorem Win.nil {a b : Nat} : Win a b [] [] := fun t => ⟨Nat.zero_le _, Nat.zero_le _⟩
theorem Win.refl {a b : Nat} (X : List (Option Int)) : Win a b X X := fun t => by
  have := cntO_mono X (show t ≤ t + 1 by omega)
  omega
theorem Win.more {a b a' b' : Nat} {X X' : List (Option Int)} (h : Win a b X X') (ha : a ≤ a') (hb : b ≤ b') : Win a' b' X X' := fun t => by
  have := h t; omega
theorem Win.dep {X X' : List (Option Int)} {g : Int} (h : Win 1 1 X X') : W1 (some (depO X g)) (some (depO X' g)) := by
  refine ⟨?_, ?_⟩
  · exact dep_le1 fun t => (h t).2
  · exact dep_le1 fun t => (h t).1
def outD (g : List (Str × Int)) (s : List (Option Int) × List (Str × Int)) (z : Str) : Option Int := match findP s.2 z with | some j => some (depO (s.1.drop (j.toNat + 1)) (gget g z)) | none => none
theorem stepD_eq (g : List (Str × Int)) (s : List (Option Int) × List (Str × Int)) (z : Str) : stepD g s z = (s.1 ++ [outD g s z], putP s.2 z s.1.length) := rfl
inductive Prs {α β : Type} (R : α → β → Prop) : List α → List β → Prop
  | nil : Prs R [] []
  | cons {x y xs ys} (h : R x y) (t : Prs R xs ys) : Prs R (x :: xs) (y :: ys)
theorem Prs.len {α β : Type} {R : α → β → Prop} {xs : List α} {ys : List β} (h : Prs R xs ys) : xs.length = ys.length := by
  induction h with
  | nil => rfl
  | cons _ _ ih => rw [List.length_cons, List.length_cons, ih]
theorem Prs.imp {α β : Type} {R R' : α → β → Prop} {xs : List α} {ys : List β} (h : Prs R xs ys) (f : ∀ x y, R x y → R' x y) : Prs R' xs ys := by
  induction h with
  | nil => exact .nil
  | cons h _ ih => exact .cons (f _ _ h) ih
theorem Prs.app {α β : Type} {R : α → β → Prop} {xs xs' : List α} {ys ys' : List β} (h : Prs R xs ys) (k : Prs R xs' ys') : Prs R (xs ++ xs') (ys ++ ys') := by
  induction h with
  | nil => exact k
  | cons h _ ih => exact .cons h ih
def Lst (a b : Nat) (s s' : List (Option Int) × List (Str × Int)) (y : Str) : Prop :=
  (findP s.2 y = none ∧ findP s'.2 y = none) ∨ ∃ j j' : Nat, findP s.2 y = some (j : Int) ∧ findP s'.2 y = some (j' : Int) ∧ j < s.1.length ∧ j' < s'.1.length ∧ Win a b (s.1.drop (j + 1)) (s'.1.drop (j' + 1))
theorem Lst.out {g : List (Str × Int)} {s s' : List (Option Int) × List (Str × Int)} {y : Str} (h : Lst 1 1 s s' y) : W1 (outD g s y) (outD g s' y) := by
  unfold outD
  rcases h with ⟨h1, h2⟩ | ⟨j, j', h1, h2, _, _, w⟩
  · rw [h1, h2]; exact ⟨trivial, trivial⟩
  · rw [h1, h2]
    simp only [Int.toNat_natCast]
    exact w.dep
theorem drop_snoc {α : Type} {xs : List α} {x : α} {j : Nat} (h : j < xs.length) : (xs ++ [x]).drop (j + 1) = xs.drop (j + 1) ++ [x] := by
  rw [List.drop_append_of_le_length (by omega)]
theorem drop_all {α : Type} {xs : List α} {x : α} : (xs ++ [x]).drop (xs.length + 1) = [] := List.drop_of_length_le (by rw [List.length_append]; simp)
theorem Lst.step {a b : Nat} {g : List (Str × Int)} {s s' : List (Option Int) × List (Str × Int)} {y z : Str} (h : y ≠ z → Lst a b s s' y) (w : W1 (outD g s z) (outD g s' z)) : Lst a b (stepD g s z) (stepD g s' z) y := by
  rw [stepD_eq, stepD_eq]
  unfold Lst
  simp only [findP_put]
  by_cases hy : y = z
  · rw [if_pos hy, if_pos hy]
    refine .inr ⟨s.1.length, s'.1.length, rfl, rfl, by simp, by simp, ?_⟩
    rw [drop_all, drop_all]; exact Win.nil
  · rw [if_neg hy, if_neg hy]
    rcases h hy with ⟨h1, h2⟩ | ⟨j, j', h1, h2, l1, l2, k⟩
    · exact .inl ⟨h1, h2⟩
    · refine .inr ⟨j, j', h1, h2, by simp; omega, by simp; omega, ?_⟩
      rw [drop_snoc l1, drop_snoc l2]
      exact k.push w
end VT

set_option Elab.async false
set_option linter.all false
set_option maxRecDepth 100000
set_option maxHeartbeats 4000000
set_option exponentiation.threshold 20000
namespace VT
open PySem PySem.Spec L2 MC VD
open PyProof.Rows hiding St
def dropP (l : List (Str × Int)) (z : Str) : List (Str × Int) := l.filter fun p => decide (p.1 ≠ z)
theorem find_drop (l : List (Str × Int)) (z y : Str) : findP (dropP l z) y = if y = z then none else findP l y := by
  unfold findP dropP
  induction l with
  | nil => simp
  | cons p l ih =>
    by_cases hp : p.1 = z
    · rw [List.filter_cons_of_neg (by simpa using hp), ih]
      by_cases hy : y = z
      · rw [if_pos hy, if_pos hy]
      · rw [if_neg hy, if_neg hy, List.find?_cons_of_neg (by simp only [decide_eq_true_eq]; rw [hp]; exact fun q => hy q.symm)]
    · rw [List.filter_cons_of_pos (by simpa using hp)]
      by_cases hy : p.1 = y
      · rw [List.find?_cons_of_pos (by simpa using hy), List.find?_cons_of_pos (by simpa using hy), if_neg (by rw [← hy]; exact hp)]
      · rw [List.find?_cons_of_neg (by simpa using hy), List.find?_cons_of_neg (by simpa using hy), ih]
def M1 (d e : Option Int) : Prop := e = d ∨ ∃ v, d = some v ∧ e = some (v + 1)
theorem M1.cnt {d e : Option Int} (h : M1 d e) (t : Int) : cntO [d] t ≤ cntO [e] t ∧ cntO [e] (t + 1) ≤ cntO [d] t := by
  rcases h with rfl | ⟨v, rfl, rfl⟩
  · exact ⟨Nat.le_refl _, cntO_mono _ (by omega)⟩
  · unfold cntO
    simp only [List.countP_singleton]
    unfold above
    dsimp only
    have e1 : (t + 1 < v + 1) ↔ (t < v) := by omega
    simp only [decide_eq_true_eq]
    refine ⟨?_, ?_⟩
    · by_cases h : t < v
      · rw [if_pos h, if_pos (show t < v + 1 by omega)]; exact Nat.le_refl _
      · rw [if_neg h]; exact Nat.zero_le _
    · by_cases h : t < v
      · rw [if_pos h]; split <;> decide
      · rw [if_neg h, if_neg (by omega)]; exact Nat.le_refl _
def LstM (s s' : List (Option Int) × List (Str × Int)) (y : Str) : Prop :=
  (findP s.2 y = none ∧ findP s'.2 y = none) ∨ ∃ j : Nat, findP s.2 y = some (j : Int) ∧ findP s'.2 y = some (j : Int) ∧ j < s.1.length ∧ ∀ t, cntO (s.1.drop (j + 1)) t ≤ cntO (s'.1.drop (j + 1)) t ∧ cntO (s'.1.drop (j + 1)) (t + 1) ≤ cntO (s.1.drop (j + 1)) t + 1
theorem LstM.out {g : List (Str × Int)} {s s' : List (Option Int) × List (Str × Int)} {y : Str} (h : LstM s s' y) : M1 (outD g s y) (outD g s' y) := by
  unfold outD
  rcases h with ⟨h1, h2⟩ | ⟨j, h1, h2, _, w⟩
  · rw [h1, h2]; exact .inl rfl
  · rw [h1, h2]
    simp only [Int.toNat_natCast]
    have a := dep_le (g := gget g y) fun t => (w t).1
    have b := dep_le1 (g := gget g y) fun t => (w t).2
    by_cases e : depO (s'.1.drop (j + 1)) (gget g y) = depO (s.1.drop (j + 1)) (gget g y)
    · exact .inl (by rw [e])
    · exact .inr ⟨_, rfl, by congr 1; omega⟩
end VT

set_option Elab.async false
set_option linter.all false
set_option maxRecDepth 100000
set_option maxHeartbeats 4000000
set_option exponentiation.threshold 20000
namespace VD
open PySem PySem.Spec L2 MC
open PyProof.Rows hiding St
variable {e : Ev} {da db dk : Ev → Option (D × Ev)} {dt : Ev → Option (Bool × Ev)} {ds : Ev → Option (List D × Ev)} {P : D → Ev → Prop}
theorem ok_dc {vs : List Nat} {di : Ev → Option (List D × Ev)} {bd : D → Ev → Option Ev} (h : Ok (di e) fun items e1 => Ok (goDc vs bd dt dk da items [] (wipeE e1 vs)) fun ys e2 => P (.dct ys) e2) : Ok (dDc vs di bd dt dk da e) P := by
  obtain ⟨items, e1, h1, ys, e2, h2, h3⟩ := h
  exact ⟨_, e2, by unfold dDc; rw [h1]; simp only []; rw [h2], h3⟩
theorem ok_callT {G : List D → Option (D × List D)} (h : Ok (ds e) fun vs e1 => OkP (G vs) fun r => P r.1 e1) : Ok (dCallT G ds e) P := by
  obtain ⟨vs, e1, h1, r, h2, h3⟩ := h
  exact ⟨r.1, e1, by unfold dCallT; rw [h1]; simp only []; rw [h2], h3⟩
theorem ok_orX (h : Ok (da e) fun x e1 => ∃ b, x.truth = some b ∧ (b = true → P x e1) ∧ (b = false → Ok (db e1) P)) : Ok (dOrX da db e) P := by
  obtain ⟨x, e1, h1, b, h2, h3, h4⟩ := h
  cases b with
  | true => exact ⟨x, e1, by unfold dOrX; rw [h1]; simp only []; rw [h2], h3 rfl⟩
  | false =>
    obtain ⟨y, e2, h5, h6⟩ := h4 rfl
    exact ⟨y, e2, by unfold dOrX; rw [h1]; simp only []; rw [h2]; simp only []; exact h5, h6⟩
end VD
local macro_rules | `(tactic| walk_at "vd2") => `(tactic| first | refine VD.ok_dc ?_ | refine VD.ok_callT ?_ | refine VD.ok_orX ?_ | walk_at "vd1")
namespace VD
open PySem PySem.Spec L2 MC
open PyProof.Rows hiding St
end VD
local macro_rules | `(tactic| walk_at "vs2") => `(tactic| repeat (first | walk_at "vd2" | walk_at "vk"))
namespace VD
open PySem PySem.Spec L2 MC
open PyProof.Rows hiding St
end VD

set_option Elab.async false
set_option linter.all false
set_option maxRecDepth 100000
set_option maxHeartbeats 4000000
set_option exponentiation.threshold 20000
namespace VT
open PySem PySem.Spec L2 MC VD
open PyProof.Rows hiding St
end VT

set_option Elab.async false
set_option linter.all false
set_option maxRecDepth 100000
set_option maxHeartbeats 4000000
set_option exponentiation.threshold 20000
namespace VT
open PySem PySem.Spec L2 MC VD
open PyProof.Rows hiding St
abbrev Chg := Nat × Option Int × Option Int
def chgL : Nat → List (Option Int) → List (Option Int) → List Chg
  | n, x :: xs, y :: ys => if x = y then chgL (n + 1) xs ys else (n, x, y) :: chgL (n + 1) xs ys
  | _, _, _ => []
def chD (c : Chg) : VD.D := .tup [.int (c.1 : Int), oD c.2.1, oD c.2.2]
theorem chgL_app (n : Nat) (X Y X' Y' : List (Option Int)) (h : X.length = X'.length) : chgL n (X ++ Y) (X' ++ Y') = chgL n X X' ++ chgL (n + X.length) Y Y' := by
  induction X generalizing n X' with
  | nil => cases X' with | nil => rfl | cons _ _ => cases h
  | cons x X ih =>
    cases X' with
    | nil => cases h
    | cons x' X' =>
      have h : X.length = X'.length := Nat.succ.inj h
      rw [List.cons_append, List.cons_append, chgL, chgL, ih (n + 1) X' h, List.length_cons, show n + 1 + X.length = n + (X.length + 1) by omega]
      split
      · rfl
      · rfl
theorem chgL_len (n : Nat) (X X' : List (Option Int)) : (chgL n X X').length ≤ X.length := by
  induction X generalizing n X' with
  | nil => exact Nat.le_refl _
  | cons x X ih =>
    cases X' with
    | nil => exact Nat.zero_le _
    | cons y X' =>
      rw [chgL]
      have := ih (n + 1) X'
      split
      · rw [List.length_cons]; omega
      · rw [List.length_cons, List.length_cons]; omega
theorem chgL_bd (n : Nat) {X X' : List (Option Int)} (hx : DepB X) (hy : DepB X') : ∀ c ∈ chgL n X X', DepB [c.2.1, c.2.2] := by
  induction X generalizing n X' with
  | nil => intro c hc; cases X' <;> cases hc
  | cons x X ih =>
    cases X' with
    | nil => intro c hc; cases hc
    | cons y X' =>
      intro c hc
      rw [chgL] at hc
      have k := ih (n + 1) (X' := X') (fun v hv => hx v (by simp [hv])) (fun v hv => hy v (by simp [hv])) c
      split at hc
      · exact k hc
      · rcases List.mem_cons.mp hc with rfl | hc
        · intro v hv
          simp only [List.mem_cons, List.not_mem_nil, or_false] at hv
          rcases hv with hv | hv
          · exact hx v (by simp [hv])
          · exact hy v (by simp [hv])
        · exact k hc
theorem shw_chg {cs : List Chg} (h : ∀ c ∈ cs, c.1 ≤ 10 ^ 6 ∧ DepB [c.2.1, c.2.2]) : oksS (cs.map chD) = true ∧ ws (cs.map chD) = 4 * cs.length ∧ dps (cs.map chD) ≤ 1 := by
  induction cs with
  | nil => exact ⟨rfl, rfl, Nat.zero_le _⟩
  | cons c cs ih =>
    obtain ⟨a, b, d⟩ := ih fun x hx => h x (by simp [hx])
    obtain ⟨n, x, y⟩ := c
    obtain ⟨h1, h2⟩ := h (n, x, y) (by simp)
    have h1 : n ≤ 10 ^ 6 := h1
    obtain ⟨k1, k2, k3⟩ := dep_shw h2
    have k1 : oksS [oD x, oD y] = true := k1
    have k2 : ws [oD x, oD y] = 2 := k2
    have k3 : dps [oD x, oD y] = 0 := k3
    refine ⟨?_, ?_, ?_⟩
    · show (((D.int (n : Int)).okS && oksS [oD x, oD y]) && oksS (cs.map chD)) = true
      rw [a, k1, okS_int (by omega) (by omega)]; rfl
    · show (1 + (1 + ws [oD x, oD y])) + ws (cs.map chD) = _
      rw [b, k2, List.length_cons]; omega
    · show max (max 0 (dps [oD x, oD y]) + 1) (dps (cs.map chD)) ≤ 1
      rw [k3]; omega
theorem eqv_dep (x y : Option Int) : PyData.eqv (oD x).py (oD y).py = decide (x = y) := by
  cases x with
  | none => cases y with | none => rfl | some b => rfl
  | some a =>
    cases y with
    | none => rfl
    | some b =>
      show (a == b) = _
      by_cases h : a = b
      · subst h; simp
      · rw [decide_eq_false (by simpa using h)]; simpa using h
theorem eqOk_dep (x : Option Int) : eqOk (oD x) = true := by cases x <;> rfl
theorem ned_dep {x y : Option Int} {P : D → Prop} (p : P (.bl (!decide (x = y)))) : OkP (pNeD (oD x) (oD y)) P := ⟨_, by unfold pNeD; rw [eqOk_dep, eqOk_dep, eqv_dep]; rfl, p⟩
theorem zip_dep (X Y : List (Option Int)) : zipD (X.map oD) (Y.map oD) = (X.zip Y).map fun q : Option Int × Option Int => D.tup [oD q.1, oD q.2] := by
  induction X generalizing Y with
  | nil => rfl
  | cons x X ih => cases Y with | nil => rfl | cons y Y => rw [List.map_cons, List.map_cons, zipD, ih]; rfl
theorem flats_zip (l : List (Option Int × Option Int)) : flats (l.map fun q : Option Int × Option Int => D.tup [oD q.1, oD q.2]) = true := by
  induction l with
  | nil => rfl
  | cons p l ih => rw [List.map_cons, flats, ih]; obtain ⟨x, y⟩ := p; cases x <;> cases y <;> rfl
theorem oD_flat (x : Option Int) : (oD x).flat = true := by cases x <;> rfl
theorem chgL_snoc {X Y : List (Option Int)} {b : Nat} {x y : Option Int} (hx : X[b]? = some x) (hy : Y[b]? = some y) : chgL 0 (X.take (b + 1)) (Y.take (b + 1)) = chgL 0 (X.take b) (Y.take b) ++ if x = y then [] else [(b, x, y)] := by
  have l1 := (List.getElem?_eq_some_iff.mp hx).1
  have l2 := (List.getElem?_eq_some_iff.mp hy).1
  rw [List.take_succ, List.take_succ, hx, hy, chgL_app _ _ _ _ _ (by rw [List.length_take, List.length_take]; omega)]
  congr 1
  rw [List.length_take, Nat.min_eq_left (by omega), Nat.zero_add]
  show chgL b [x] [y] = _
  rw [chgL]
  split <;> rfl
theorem noRo_ch (b : Int) (x y : Option Int) : noRo [D.int b, oD x, oD y] = true := by cases x <;> cases y <;> rfl
theorem changes_ok {X Y : List (Option Int)} (hl : X.length = Y.length) (h1 : X.length ≤ 1000) {P : VD.D × List VD.D → Prop} (p : P (.lst ((chgL 0 X Y).map chD), [])) : OkP (Sh.den_changes [.lst (X.map oD), .lst (Y.map oD)]) P := by
  refine okp_def (Nat.le_of_ble_eq_true rfl) ?_
  unfold Sh.body_changes; dsimp only [padE]
  walk_at "vs"
  refine ⟨.lst ((X.zip Y).map fun q : Option Int × Option Int => D.tup [oD q.1, oD q.2]), by unfold pZipL; simp only []; rw [zip_dep], flats_zip _, ?_⟩
  walk_at "vs"
  refine ⟨enumD 0 ((X.zip Y).map fun q : Option Int × Option Int => D.tup [oD q.1, oD q.2]), rfl, ?_⟩
  walk_at "vc"
  refine ok_in (fun ys e => ys = (chgL 0 X Y).map chD) ?_ ?_
  · refine Ok.mono (okp_lc (fun b acc e => acc = (chgL 0 (X.take b) (Y.take b)).map chD ∧ ∃ w3 w4 w5, e = [some (.lst (X.map oD)), some (.lst (Y.map oD)), some (.lst ((X.zip Y).map fun q : Option Int × Option Int => D.tup [oD q.1, oD q.2])), w3, w4, w5]) _ 0 [] _ ⟨rfl, _, _, _, rfl⟩ fun b d acc e hb he => ?_) fun ys e he => ?_
    · obtain ⟨rfl, w3, w4, w5, rfl⟩ := he
      obtain ⟨q, hq, rfl⟩ := enumD_at hb
      rw [List.getElem?_map] at hq
      obtain ⟨⟨x, y⟩, hz, rfl⟩ := Option.map_eq_some_iff.mp hq
      obtain ⟨hx, hy⟩ := List.getElem?_zip_eq_some.mp hz
      have bf : ∀ bd e, bFl true bd (D.tup [D.int ((0 + b : Nat) : Int), D.tup [oD x, oD y]]) e = bd (D.tup [D.int ((0 + b : Nat) : Int), D.tup [oD x, oD y]]) e := by cases x <;> cases y <;> intros <;> rfl
      refine ⟨_, (bf _ _).trans rfl, ?_⟩
      rw [Nat.zero_add, chgL_snoc hx hy]
      walk_at "vc"
      walk_at "vs"
      refine ned_dep ?_
      walk_at "vs"
      by_cases e : x = y
      · refine br_f (by rw [decide_eq_true e]; rfl) ?_
        rw [if_pos e, List.append_nil]
        exact ⟨rfl, _, _, _, rfl⟩
      · refine br_t (by rw [decide_eq_false e]; rfl) ?_
        rw [if_neg e, List.map_append]
        walk_at "vs"
        refine ⟨rfl, ?_⟩
        walk_at "vs"
        refine ⟨oD_flat _, ?_⟩
        walk_at "vs"
        refine ⟨oD_flat _, ?_⟩
        walk_at "vs"
        refine ⟨noRo_ch _ _ _, (by show (3 : Nat) ≤ sizeLine; decide), ?_⟩
        exact ⟨rfl, rfl, _, _, _, rfl⟩
    · obtain ⟨h2, _⟩ := he
      rw [Nat.zero_add, enumD_len, List.length_map, List.length_zip, ← hl, Nat.min_self, List.take_length, List.take_of_length_le (by omega)] at h2
      simpa using h2
  · rintro ys e1 rfl
    refine ⟨Nat.le_trans (show _ ≤ 1000 by rw [List.length_map]; have := chgL_len 0 X Y; omega) (by decide), ?_⟩
    exact ⟨_, rfl, p⟩
theorem sl_to {α : Type} {f : α → D} {xs : List α} {p : Nat} : pSlL (.lst (xs.map f)) none (some (p : Int)) = some (.lst ((xs.take p).map f)) := by
  show some (D.lst (VD.cutD (xs.map f) _ _)) = _
  rw [cut_to _ (by omega), ← List.map_take]; rfl
theorem sl_from {α : Type} {f : α → D} {xs : List α} {p : Nat} : pSlL (.lst (xs.map f)) (some (p : Int)) none = some (.lst ((xs.drop p).map f)) := by
  show some (D.lst (VD.cutD (xs.map f) _ _)) = _
  rw [cut_from _ (by omega), ← List.map_drop]; rfl
theorem op_slTo {α : Type} {f : α → D} {xs : List α} {p : Nat} {P : D → Prop} (k : P (.lst ((xs.take p).map f))) : OkP (pSlL (.lst (xs.map f)) none (some (p : Int))) P := ⟨_, sl_to, k⟩
theorem op_slFrom {α : Type} {f : α → D} {xs : List α} {p : Nat} {i : Int} {P : D → Prop} (hi : i = (p : Int)) (k : P (.lst ((xs.drop p).map f))) : OkP (pSlL (.lst (xs.map f)) (some i) none) P := by
  subst hi; exact ⟨_, sl_from, k⟩
theorem op_catS {α : Type} {f : α → D} {xs ys : List α} {P : D → Prop} (h : xs.length + ys.length ≤ 4000) (k : P (.lst ((xs ++ ys).map f))) : OkP (pCat (.lst (xs.map f)) (.lst (ys.map f))) P := by
  refine op_catL (Nat.le_trans (show _ ≤ 4000 by rw [List.length_map, List.length_map]; exact h) (by decide)) ?_
  rw [← List.map_append]; exact k
theorem op_ixO {xs : List (Option Int)} {i : Int} {n : Nat} {x : Option Int} {P : D → Prop} (hi : i = (n : Int)) (h : xs[n]? = some x) (k : P (oD x)) : OkP (pIx (.lst (xs.map oD)) (.int i)) P := by
  subst hi
  exact op_ixL (atI_nat' (by rw [List.getElem?_map, h]; rfl)) k
theorem is_thing_ok {z : Str} (h : isThingS z = true) {P : D × List D → Prop} (p : P (.bl true, [])) : OkP (Sh.den_is_thing [.str z]) P := by
  obtain ⟨h1, h2, h3⟩ := thing_len h
  refine okp_def (Nat.le_of_ble_eq_true rfl) ?_
  unfold Sh.body_is_thing; dsimp only [padE]
  walk_at "vs"
  refine op_isi rfl ?_
  walk_at "vs"
  refine op_lenS (Nat.le_trans h2 (by decide)) ?_
  walk_at "vs"
  refine br_t (decide_eq_true (by omega)) ?_
  walk_at "vs"
  refine br_t (decide_eq_true (by omega)) ?_
  walk_at "vs"
  refine ⟨rfl, ?_⟩
  walk_at "vs"
  refine are_small_str z (by omega) ?_
  rw [h3]
  exact ⟨_, rfl, p⟩
theorem check_thing_ok {z : Str} (h : isThingS z = true) {P : D × List D → Prop} (p : P (.non, [])) : OkP (Sh.den_check_thing [.str z]) P := by
  refine okp_def (Nat.le_of_ble_eq_true rfl) ?_
  unfold Sh.body_check_thing; dsimp only [padE]
  walk_at "vs"
  refine ⟨rfl, ?_⟩
  walk_at "vs"
  refine is_thing_ok h ?_
  walk_at "vc"
  walk_at "vs"
  exact ⟨_, rfl, p⟩
theorem check_place_ok {i m : Int} (h0 : 0 ≤ i) (h1 : i < m) {P : D × List D → Prop} (p : P (.non, [])) : OkP (Sh.den_check_place [.int i, .int m]) P := by
  refine okp_def (Nat.le_of_ble_eq_true rfl) ?_
  unfold Sh.body_check_place; dsimp only [padE]
  walk_at "vs"
  refine ⟨rfl, ?_⟩
  walk_at "vs"
  refine is_whole_int _ ?_
  walk_at "vc"
  walk_at "vs"
  refine br_t (decide_eq_true h0) ?_
  walk_at "vs"
  rw [decide_eq_true h1]
  walk_at "vs"
  exact ⟨_, rfl, p⟩
end VT

set_option Elab.async false
set_option linter.all false
set_option maxRecDepth 100000
set_option maxHeartbeats 4000000
set_option exponentiation.threshold 20000
namespace VT
open PySem PySem.Spec L2 MC VD
open PyProof.Rows hiding St
theorem put_in_ok {tp : Bool} {ps : List Pt} {as : List Str} {g : Option (List (Str × Int))} {q : Nat} {z : Str} {d0 : Option Int} (h : Near ps) (a : ptsA ps = as) (hg : OkG (g.getD [])) (hq : q ≤ as.length) (hz : isThingS z = true) (hd : (depsOf (g.getD []) (as.take q ++ z :: as.drop q))[q]? = some d0) {P : VD.D × List VD.D → Prop}
    (p : P (.tup [oD d0, .lst ((chgL 0 (depsOf (g.getD []) as) ((depsOf (g.getD []) (as.take q ++ z :: as.drop q)).take q ++ (depsOf (g.getD []) (as.take q ++ z :: as.drop q)).drop (q + 1))).map chD)], [])) :
    OkP (Sh.den_put_in [sq tp (ptsD ps), .int (q : Int), .str z, goD g]) P := by
  have al := h.ln
  rw [a] at al
  have l1 : (as.take q ++ [z]).length + (as.drop q).length = as.length + 1 := by
    rw [List.length_append, List.length_take, List.length_drop, List.length_singleton]; omega
  have l2 : (as.take q ++ z :: as.drop q) = as.take q ++ [z] ++ as.drop q := by simp
  have l3 := deps_len (g.getD []) (as.take q ++ z :: as.drop q)
  have l4 : (as.take q ++ z :: as.drop q).length = as.length + 1 := by rw [l2, List.length_append]; exact l1
  refine okp_def (Nat.le_of_ble_eq_true rfl) ?_
  unfold Sh.body_put_in; dsimp only [padE]
  walk_at "vs"
  refine near_ok h ?_
  rw [a]
  walk_at "vc"
  walk_at "vs"
  refine ⟨rfl, ?_⟩
  walk_at "vs"
  rw [List.length_map]
  refine check_place_ok (by omega) (by omega) ?_
  walk_at "vc"
  walk_at "vs"
  refine ⟨rfl, ?_⟩
  walk_at "vs"
  refine check_thing_ok hz ?_
  walk_at "vc"
  walk_at "vs"
  refine checked_graces_ok hg ?_
  walk_at "vc"
  walk_at "vs"
  refine op_slTo ⟨flats_strs _, ?_⟩
  walk_at "vs"
  refine ⟨rfl, ?_⟩
  walk_at "vs"
  refine ⟨rfl, (by show (1 : Nat) ≤ sizeLine; decide), ?_⟩
  refine op_catS (f := D.str) (ys := [z]) (by rw [List.length_take, List.length_singleton]; omega) ⟨flats_strs _, ?_⟩
  walk_at "vs"
  refine op_slFrom rfl ⟨flats_strs _, ?_⟩
  refine op_catS (by omega) ⟨flats_strs _, ?_⟩
  rw [← l2]
  walk_at "vs"
  refine reckoned_ok1 (by omega) ?_
  walk_at "vc"
  walk_at "vs"
  refine op_ixO rfl hd ?_
  refine ⟨oD_flat _, ?_⟩
  walk_at "vs"
  refine reckoned_ok1 (by omega) ?_
  walk_at "vc"
  walk_at "vs"
  refine op_slTo ⟨flats_deps _, ?_⟩
  walk_at "vs"
  refine op_slFrom (p := q + 1) (by omega) ⟨flats_deps _, ?_⟩
  refine op_catS (by rw [List.length_take, List.length_drop]; omega) ⟨flats_deps _, ?_⟩
  walk_at "vs"
  refine changes_ok (by rw [deps_len, List.length_append, List.length_take, List.length_drop]; omega) (by rw [deps_len]; omega) ?_
  walk_at "vc"
  walk_at "vs"
  refine ⟨by cases d0 <;> rfl, (by show (2 : Nat) ≤ sizeLine; decide), ?_⟩
  exact ⟨_, rfl, p⟩
theorem l_changes_ok {X Y : List (Option Int)} (hl : X.length = Y.length) (h1 : X.length ≤ 1000) {P : VD.D × List VD.D → Prop} (p : P (.lst ((chgL 0 X Y).map chD), [])) : OkP (Sh.den_l_changes [.lst (X.map oD), .lst (Y.map oD)]) P := by
  refine okp_def (Nat.le_of_ble_eq_true rfl) ?_
  unfold Sh.body_l_changes; dsimp only [padE]
  walk_at "vs"
  rw [List.length_map]
  refine ⟨rangeI 0 1 (X.length : Int).toNat, by unfold rng1P; simp only []; rw [if_pos (by unfold smallB; simp; omega)], ?_⟩
  walk_at "vc"
  refine ok_in (fun ys e => ys = (chgL 0 X Y).map chD) ?_ ?_
  · refine Ok.mono (okp_lc (fun b acc e => acc = (chgL 0 (X.take b) (Y.take b)).map chD ∧ ∃ w3, e = [some (.lst (X.map oD)), some (.lst (Y.map oD)), w3]) _ 0 [] _ ⟨rfl, _, rfl⟩ fun b d acc e hb he => ?_) fun ys e he => ?_
    · obtain ⟨rfl, w3, rfl⟩ := he
      obtain ⟨rfl, il⟩ := rng_at hb
      have hx : X[b]? = some X[b] := List.getElem?_eq_getElem (by omega)
      have hy : Y[b]? = some Y[b] := List.getElem?_eq_getElem (by omega)
      generalize X[b]'_ = x at hx
      generalize Y[b]'_ = y at hy
      refine ⟨_, rfl, ?_⟩
      rw [Nat.zero_add, chgL_snoc hx hy]
      walk_at "vc"
      walk_at "vs"
      refine op_ixO (n := b) (by omega) hx ?_
      walk_at "vs"
      refine op_ixO (n := b) (by omega) hy ?_
      refine ned_dep ?_
      walk_at "vs"
      by_cases e : x = y
      · refine br_f (by rw [decide_eq_true e]; rfl) ?_
        rw [if_pos e, List.append_nil]
        exact ⟨rfl, _, rfl⟩
      · refine br_t (by rw [decide_eq_false e]; rfl) ?_
        rw [if_neg e, List.map_append]
        walk_at "vs"
        refine ⟨rfl, ?_⟩
        walk_at "vs"
        refine op_ixO (n := b) (by omega) hx ?_
        refine ⟨oD_flat _, ?_⟩
        walk_at "vs"
        refine op_ixO (n := b) (by omega) hy ?_
        refine ⟨oD_flat _, ?_⟩
        walk_at "vs"
        refine ⟨noRo_ch _ _ _, (by show (3 : Nat) ≤ sizeLine; decide), ?_⟩
        exact ⟨rfl, rfl, _, rfl⟩
    · obtain ⟨h2, _⟩ := he
      rw [rng_len, show 0 + (X.length : Int).toNat = X.length by omega, List.take_length, List.take_of_length_le (by omega)] at h2
      simpa using h2
  · rintro ys e1 rfl
    refine ⟨Nat.le_trans (show _ ≤ 1000 by rw [List.length_map]; have := chgL_len 0 X Y; omega) (by decide), ?_⟩
    exact ⟨_, rfl, p⟩
end VT

set_option Elab.async false
set_option linter.all false
set_option maxRecDepth 100000
set_option maxHeartbeats 4000000
set_option exponentiation.threshold 20000
namespace VT
open PySem PySem.Spec L2 MC VD
open PyProof.Rows hiding St
def GoodS (s : List (Option Int) × List (Str × Int)) : Prop := s.2.length ≤ s.1.length ∧ ∀ y j, findP s.2 y = some j → 0 ≤ j ∧ j < s.1.length
theorem GoodS.step {g : List (Str × Int)} {s : List (Option Int) × List (Str × Int)} (h : GoodS s) (z : Str) : GoodS (stepD g s z) := by
  rw [stepD_eq]
  refine ⟨?_, fun y j hj => ?_⟩
  · have := putP_len s.2 z s.1.length
    have := h.1
    show (putP s.2 z s.1.length).length ≤ (s.1 ++ [_]).length
    rw [List.length_append, List.length_singleton]; omega
  · simp only [findP_put] at hj
    rw [List.length_append, List.length_singleton]
    split at hj
    · cases hj; omega
    · have := h.2 y j hj; omega
theorem GoodS.drop {s : List (Option Int) × List (Str × Int)} (h : GoodS s) (z : Str) : GoodS (s.1, dropP s.2 z) := by
  refine ⟨Nat.le_trans (List.length_filter_le _ _) h.1, fun y j hj => ?_⟩
  simp only [find_drop] at hj
  split at hj
  · cases hj
  · exact h.2 y j hj
theorem chgL_ix (n : Nat) (X X' : List (Option Int)) : ∀ c ∈ chgL n X X', n ≤ c.1 ∧ c.1 < n + X.length := by
  induction X generalizing n X' with
  | nil => intro c hc; cases X' <;> cases hc
  | cons x X ih =>
    cases X' with
    | nil => intro c hc; cases hc
    | cons y X' =>
      intro c hc
      rw [chgL] at hc
      rw [List.length_cons]
      have k := ih (n + 1) X' c
      split at hc
      · have := k hc; omega
      · rcases List.mem_cons.mp hc with rfl | hc
        · exact ⟨Nat.le_refl _, by show n < n + (X.length + 1); omega⟩
        · have := k hc; omega
theorem chgL_bd_ix {n : Nat} {X X' : List (Option Int)} {c : Chg} (h : c ∈ chgL n X X') : n ≤ c.1 ∧ c.1 < n + X.length := chgL_ix n X X' c h
theorem intKs_dctP' (g : List (Str × Int)) : intKs (dctP g) = true := by
  induction g with
  | nil => rfl
  | cons x g ih => exact ih
end VT

set_option Elab.async false
set_option linter.all false
set_option maxRecDepth 100000
set_option maxHeartbeats 4000000
set_option exponentiation.threshold 20000
namespace VT
open PySem PySem.Spec L2 MC VD
open PyProof.Rows hiding St
end VT

set_option Elab.async false
set_option linter.all false
set_option maxRecDepth 100000
set_option maxHeartbeats 4000000
set_option exponentiation.threshold 20000
namespace V48
open PySem PySem.Spec L2 MC VD VT
open PyProof.Rows hiding St
theorem two_line : (2 : Nat) ≤ sizeLine := by decide
theorem ok_mutT {p : List D → List D → Option (D × List D)} {x j : Nat} {ks : List Nat} {ds : Ev → Option (List D × Ev)} {e : Ev} {P : D → Ev → Prop} {es ys : List D} (h0 : e[x]? = some (some (.tup es))) (h1 : es[j]? = some (.lst ys)) (h : Ok (ds e) fun vs e1 => ∃ es1 xs1, e1[x]? = some (some (.tup es1)) ∧ es1[j]? = some (.lst xs1) ∧ flatBut j es1 = true ∧ OkP (p xs1 vs) fun r => P r.1 ((killL ks e1).set x (some (.tup (es1.set j (.lst r.2)))))) : Ok (dMutT p x j ks ds e) P := by
  obtain ⟨vs, e1, k1, es1, xs1, k2, k3, k4, r, k5, k6⟩ := h
  refine ⟨r.1, (killL ks e1).set x (some (.tup (es1.set j (.lst r.2)))), ?_, k6⟩
  unfold dMutT
  rw [h0]; simp only []; rw [h1]; simp only []; rw [k1]
  show dAftT p x j ks (vs, e1) = _
  unfold dAftT
  rw [k2]; simp only []; rw [k3]; simp only []; rw [if_pos k4, k5]
def lngL (g : List (Str × Int)) (as : List Str) (q : Nat) (z : Str) : List (Option Int) := depsOf g (as.take q ++ z :: as.drop q)
def dueC (g : List (Str × Int)) (as : List Str) (q : Nat) (z : Str) : List Chg := chgL 0 (depsOf g as) ((lngL g as q z).take q ++ (lngL g as q z).drop (q + 1))
def dueT (g : List (Str × Int)) (as : List Str) (q : Nat) (z : Str) : D := .tup [oD ((lngL g as q z)[q]?.getD none), .lst ((dueC g as q z).map chD)]
theorem lng_len {g : List (Str × Int)} {as : List Str} {q : Nat} {z : Str} (hq : q ≤ as.length) : (lngL g as q z).length = as.length + 1 := by
  unfold lngL; rw [deps_len, List.length_append, List.length_cons, List.length_take, List.length_drop]; omega
theorem lng_at {g : List (Str × Int)} {as : List Str} {q : Nat} {z : Str} (hq : q ≤ as.length) : (lngL g as q z)[q]? = some ((lngL g as q z)[q]?.getD none) := by
  rw [List.getElem?_eq_getElem (show q < (lngL g as q z).length by rw [lng_len hq]; omega)]; rfl
theorem due_ok {as : List Str} {g : List (Str × Int)} {q : Nat} {z : Str} (al : as.length ≤ 400) (gg : ∀ z, -(10 ^ 30) ≤ gget g z) (hq : q ≤ as.length) {P : D × List D → Prop} (p : P (dueT g as q z, [])) : OkP (den_l_due [.lst (as.map D.str), .dct (dctP g), .int (q : Int), .str z]) P := by
  have ll := lng_len (g := g) (z := z) hq
  have la := lng_at (g := g) (z := z) hq
  refine okp_def (Nat.le_of_ble_eq_true rfl) ?_
  unfold body_l_due; dsimp only [padE]
  walk_at "vs"
  refine op_slTo ?_
  refine ⟨flats_strs _, ?_⟩
  walk_at "vs"
  refine ⟨rfl, ?_⟩
  walk_at "vs"
  refine ⟨rfl, (by show (1 : Nat) ≤ sizeLine; decide), ?_⟩
  refine op_catS (f := D.str) (ys := [z]) (by simp; omega) ?_
  refine ⟨flats_strs _, ?_⟩
  walk_at "vs"
  refine op_slFrom rfl ?_
  refine ⟨flats_strs _, ?_⟩
  refine op_catS (f := D.str) (by simp; omega) ?_
  refine ⟨flats_strs _, ?_⟩
  walk_at "vs"
  have a1 : as.take q ++ [z] ++ as.drop q = as.take q ++ z :: as.drop q := by rw [List.append_assoc]; rfl
  rw [a1]
  refine law_depths_ok1 (by rw [List.length_append, List.length_cons, List.length_take, List.length_drop]; omega) gg ?_
  have eL : depsOf g (as.take q ++ z :: as.drop q) = lngL g as q z := rfl
  rw [eL]
  walk_at "vs"
  refine op_ixO rfl la ?_
  refine ⟨oD_flat _, ?_⟩
  walk_at "vs"
  refine law_depths_ok1 (by omega) gg ?_
  walk_at "vs"
  refine op_slTo ?_
  refine ⟨flats_deps _, ?_⟩
  walk_at "vs"
  refine op_slFrom (p := q + 1) (by omega) ?_
  refine ⟨flats_deps _, ?_⟩
  refine op_catS (f := oD) (by simp; omega) ?_
  refine ⟨flats_deps _, ?_⟩
  walk_at "vs"
  refine l_changes_ok (by rw [deps_len, List.length_append, List.length_take, List.length_drop]; omega) (by rw [deps_len]; omega) ?_
  walk_at "vs"
  refine ⟨by cases (lngL g as q z)[q]?.getD none <;> rfl, two_line, _, rfl, p⟩
theorem put_g {tp : Bool} {ps : List Pt} {as : List Str} {g : List (Str × Int)} {q : Nat} {z : Str} (h : Near ps) (a : ptsA ps = as) (hg : OkG g) (hq : q ≤ as.length) (hz : isThingS z = true) {P : D × List D → Prop} (p : P (dueT g as q z, [])) : OkP (Sh.den_put_in [sq tp (ptsD ps), .int (q : Int), .str z, .dct (dctP g)]) P :=
  put_in_ok (g := some g) h a hg hq hz (lng_at (g := g) (z := z) hq) p
theorem put_n {tp : Bool} {ps : List Pt} {as : List Str} {q : Nat} {z : Str} (h : Near ps) (a : ptsA ps = as) (hq : q ≤ as.length) (hz : isThingS z = true) {P : D × List D → Prop} (p : P (dueT [] as q z, [])) : OkP (Sh.den_put_in [sq tp (ptsD ps), .int (q : Int), .str z, .non]) P :=
  put_in_ok (g := none) h a GrB.nil.okG hq hz (lng_at (g := []) (z := z) hq) p
theorem dueC_len (g : List (Str × Int)) (as : List Str) (q : Nat) (z : Str) : (dueC g as q z).length ≤ as.length := by
  have := chgL_len 0 (depsOf g as) ((lngL g as q z).take q ++ (lngL g as q z).drop (q + 1))
  rw [deps_len] at this
  exact this
theorem show_due {g : List (Str × Int)} {as : List Str} {q : Nat} {z : Str} (gg : ∀ z, -(10 ^ 30) ≤ gget g z) (al : as.length ≤ 400) (hq : q ≤ as.length) : showOk (dueT g as q z) = true := by
  have ll := lng_len (g := g) (z := z) hq
  have la := lng_at (g := g) (z := z) hq
  have bl : DepB (lngL g as q z) := deps_bd gg (by rw [List.length_append, List.length_cons, List.length_take, List.length_drop]; omega)
  have cl := dueC_len g as q z
  obtain ⟨c1, c2, c3⟩ := shw_chg (cs := dueC g as q z) fun c hc => ⟨by
    have := (chgL_bd_ix hc).2
    rw [deps_len] at this
    omega, chgL_bd 0 (deps_bd gg (by omega)) (fun v hv => by
      rcases List.mem_append.mp hv with hv | hv
      · exact bl v (List.mem_of_mem_take hv)
      · exact bl v (List.mem_of_mem_drop hv)) c hc⟩
  obtain ⟨d1, d2, d3⟩ := dep_shw (xs := [(lngL g as q z)[q]?.getD none]) fun v hv => by
    rw [List.mem_singleton] at hv
    rw [← hv] at la
    exact bl v (List.mem_of_getElem? la)
  have d1 : ((oD ((lngL g as q z)[q]?.getD none)).okS && true) = true := d1
  have d2 : (oD ((lngL g as q z)[q]?.getD none)).w + 0 = 1 := d2
  have d3 : max (oD ((lngL g as q z)[q]?.getD none)).dp' 0 = 0 := d3
  rw [Bool.and_true] at d1
  refine show_of ?_ ?_ ?_
  · show ((oD _).okS && (oksS ((dueC g as q z).map chD) && true)) = true
    rw [d1, c1]; rfl
  · show 1 + ((oD _).w + ((1 + ws ((dueC g as q z).map chD)) + 0)) ≤ 2000
    rw [c2]; omega
  · show max (oD _).dp' (max (dps ((dueC g as q z).map chD) + 1) 0) + 1 ≤ 100
    omega
end V48

set_option Elab.async false
set_option linter.all false
set_option maxRecDepth 100000
set_option maxHeartbeats 4000000
set_option exponentiation.threshold 20000
namespace V48
open PySem PySem.Spec L2 MC VD VT
open PyProof.Rows hiding St
theorem right_ok {N : Nat} {u : D} {as : List Str} {g : List (Str × Int)} {z : Str} (hu : OkU N u) (hN : N ≤ 10 ^ 10) (th : ∀ y ∈ as, isThingS y = true) (al : as.length ≤ 400) (hg : GrB g) (hz : isThingS z = true) {P : D × List D → Prop}
    (p : ∀ u', OkU (N + 1400) u' → P (.bl true, [u'])) : OkP (den_l_right [u, .lst (as.map D.str), .dct (dctP g), .str z]) P := by
  have gl := hg.ln
  have gg : ∀ z, -(10 ^ 30) ≤ gget g z := fun z => (hg.gg z).1
  refine okp_def (Nat.le_of_ble_eq_true rfl) ?_
  unfold body_l_right; dsimp only [padE]
  walk_at "vs"
  rw [List.length_map]
  refine pour_ok hu (by omega) (by omega) (by omega) fun a1 u a10 a11 h1 => ?_
  walk_at "vc"
  walk_at "vs"
  rw [List.length_map]
  refine pour_ok h1 (by omega) (by omega) (by omega) fun a2 u a20 a21 h1 => ?_
  walk_at "vc"
  walk_at "vs"
  refine ⟨rfl, (by show (4 : Nat) ≤ sizeLine; decide), ?_⟩
  walk_at "vs"
  refine pour_ok h1 (by omega) (by decide) (by decide) fun a3 u a30 a31 h1 => ?_
  walk_at "vc"
  have hpl : ∃ q : Nat, atI [D.int 0, .int (as.length : Int), .int a1, .int a2] a3 = some (.int (q : Int)) ∧ q ≤ as.length := by
    obtain ⟨d, hd1, hd2⟩ := at_lst (xs := [D.int 0, .int (as.length : Int), .int a1, .int a2]) a30 a31
    simp only [List.mem_cons, List.not_mem_nil, or_false] at hd1
    rcases hd1 with rfl | rfl | rfl | rfl
    · exact ⟨0, hd2, Nat.zero_le _⟩
    · exact ⟨as.length, hd2, Nat.le_refl _⟩
    · exact ⟨a1.toNat, by rw [hd2, show ((a1.toNat : Nat) : Int) = a1 by omega], by omega⟩
    · exact ⟨a2.toNat, by rw [hd2, show ((a2.toNat : Nat) : Int) = a2 by omega], by omega⟩
  obtain ⟨q, hq1, hq⟩ := hpl
  refine op_ixL hq1 ?_
  walk_at "vs"
  refine ⟨rfl, ?_⟩
  walk_at "vs"
  refine ⟨rfl, ?_⟩
  walk_at "vs"
  refine due_ok al gg hq ?_
  walk_at "vc"
  walk_at "vs"
  refine ⟨.tup (as.map D.str), rfl, flats_strs _, ?_⟩
  walk_at "vs"
  refine folded_ok h1 (by omega) th al fun tp0 ps0 u n0 a0 w0 h1 => ?_
  walk_at "vc"
  walk_at "vs"
  refine ⟨by show noRo [.lst (as.map D.str), .tup (as.map D.str), sq tp0 (ptsD ps0)] = true; cases tp0 <;> rfl, (by show (3 : Nat) ≤ sizeLine; decide), ?_⟩
  walk_at "vs"
  refine pour_ok h1 (by omega) (by decide) (by decide) fun r u r0 r1 h1 => ?_
  walk_at "vc"
  have hz2 : ∃ tp ps, atI [D.lst (as.map D.str), .tup (as.map D.str), sq tp0 (ptsD ps0)] r = some (sq tp (ptsD ps)) ∧ Near ps ∧ ptsA ps = as ∧ (ps.map Pt.w).sum ≤ 1600 := by
    obtain ⟨d, hd1, hd2⟩ := at_lst (xs := [D.lst (as.map D.str), .tup (as.map D.str), sq tp0 (ptsD ps0)]) r0 r1
    have fl := Near.flat th al
    have fw : ((as.map Pt.one).map Pt.w).sum ≤ 1600 := by
      rw [List.map_map]
      have : as.map (Pt.w ∘ Pt.one) = as.map fun _ => 1 := rfl
      rw [this, List.map_const', List.sum_replicate_nat]; omega
    simp only [List.mem_cons, List.not_mem_nil, or_false] at hd1
    rcases hd1 with rfl | rfl | rfl
    · exact ⟨false, as.map Pt.one, by rw [hd2, ptsD_ones]; rfl, fl, ptsA_ones as, fw⟩
    · exact ⟨true, as.map Pt.one, by rw [hd2, ptsD_ones]; rfl, fl, ptsA_ones as, fw⟩
    · exact ⟨tp0, ps0, hd2, n0, a0, by omega⟩
  obtain ⟨tp, ps, e1, n1, a1', w1⟩ := hz2
  refine op_ixL e1 ?_
  walk_at "vs"
  have sr : isRo (sq tp (ptsD ps)) = false := ro_sq _ _
  have sh : showOk (.lst [sq tp (ptsD ps), .dct (dctP g)]) = true := show_row n1.ok (by omega) hg.shw gl
  have nr : noRo [sq tp (ptsD ps), .dct (dctP g)] = true := by cases tp <;> rfl
  refine ⟨nr, (by show (2 : Nat) ≤ sizeLine; decide), ?_⟩
  walk_at "vs"
  refine op_repr rfl sh ?_
  walk_at "vs"
  refine ⟨rangeI 0 1 2, rfl, ?_⟩
  have shc := show_due (z := z) gg al hq
  have dl := dueC_len g as q z
  have fb : ∀ l : List D, flatBut 1 [oD ((lngL g as q z)[q]?.getD none), .lst l] = true := fun l => by
    show ((oD _).flat && true) = true
    rw [oD_flat]; rfl
  refine okl_for (fun i e => ∃ w8 w9, e = [some u, some (.lst (as.map D.str)), some (.dct (dctP g)), some (.str z), some (.int (q : Int)), some (dueT g as q z), some (sq tp (ptsD ps)), some (.str (D.lst [sq tp (ptsD ps), .dct (dctP g)]).py.shown), w8, w9]) _ 0 _ ⟨_, _, rfl⟩ (fun i d e hi he => ?_) (fun e he => ?_)
  · obtain ⟨w8, w9, rfl⟩ := he
    obtain ⟨rfl, il⟩ := rng_at hi
    refine ⟨_, rfl, ?_⟩
    unfold bd_l_right_1
    walk_at "vc"
    walk_at "vs"
    refine ⟨rfl, ?_⟩
    walk_at "vs"
    refine ⟨rfl, ?_⟩
    walk_at "vs"
    refine put_g n1 a1' hg.okG hq hz ?_
    walk_at "vc"
    walk_at "vs"
    refine op_repr rfl shc ?_
    walk_at "vs"
    refine op_repr rfl shc ?_
    walk_at "vs"
    rw [decide_eq_true rfl]
    refine ⟨fun h => Bool.noConfusion h, fun _ => ?_⟩
    walk_at "vs"
    refine ⟨nr, (by show (2 : Nat) ≤ sizeLine; decide), ?_⟩
    walk_at "vs"
    refine op_repr rfl sh ?_
    walk_at "vs"
    refine br_f (by rw [decide_eq_true rfl]; rfl) ?_
    walk_at "vs"
    refine ok_mutT (es := [oD ((lngL g as q z)[q]?.getD none), .lst ((dueC g as q z).map chD)]) (ys := (dueC g as q z).map chD) rfl rfl ?_
    walk_at "vs"
    refine ⟨rfl, (by show (3 : Nat) ≤ sizeLine; decide), ?_⟩
    walk_at "vs"
    refine ⟨_, _, rfl, rfl, fb _, (D.non, (dueC g as q z).map chD ++ [.tup [.int 0, .int 0, .int 0]]), ?_, ?_⟩
    · unfold mAppend
      simp only []
      rw [if_pos (by rw [Bool.and_eq_true]; exact ⟨rfl, decide_eq_true (Nat.lt_of_le_of_lt (show _ ≤ 400 by rw [List.length_map]; omega) (by decide))⟩)]
    walk_at "vc"
    obtain ⟨y, ys, hy⟩ : ∃ y ys, (dueC g as q z).map chD ++ [D.tup [.int 0, .int 0, .int 0]] = y :: ys := by
      cases (dueC g as q z).map chD with
      | nil => exact ⟨_, _, rfl⟩
      | cons a l => exact ⟨_, _, rfl⟩
    have yl : (y :: ys).length ≤ 401 := by rw [← hy, List.length_append, List.length_map, List.length_singleton]; omega
    rw [hy]
    walk_at "vs"
    refine ok_mutT (es := [oD ((lngL g as q z)[q]?.getD none), .lst (y :: ys)]) (ys := y :: ys) rfl rfl ?_
    walk_at "vs"
    refine ⟨_, _, rfl, rfl, fb _, ?_⟩
    refine op_popAt (xs := y :: ys) (y := y) (Int.le_refl 0) rfl (Nat.lt_of_le_of_lt yl (by decide)) ?_
    walk_at "vc"
    exact ⟨_, _, rfl⟩
  · obtain ⟨w8, w9, rfl⟩ := he
    walk_at "vs"
    refine op_eqk (intKs_dctP' g) rfl ?_
    walk_at "vs"
    cases g with
    | cons x g =>
      refine br_t rfl ?_
      exact ⟨_, rfl, p u (h1.mono (by omega))⟩
    | nil =>
      refine br_f rfl ?_
      walk_at "vs"
      refine ⟨rfl, ?_⟩
      walk_at "vs"
      refine ⟨rfl, ?_⟩
      walk_at "vs"
      refine put_n n1 a1' hq hz ?_
      walk_at "vs"
      refine op_repr rfl shc ?_
      walk_at "vs"
      refine op_repr rfl shc ?_
      walk_at "vs"
      refine ⟨_, rfl, ?_⟩
      rw [decide_eq_true rfl]
      exact p u (h1.mono (by omega))
end V48

set_option Elab.async false
set_option linter.all false
set_option maxRecDepth 100000
set_option maxHeartbeats 4000000
set_option exponentiation.threshold 20000
namespace V48
open PySem PySem.Spec L2 MC VD VT
open PyProof.Rows hiding St
theorem newone_ok : isThingS "newone" = true := by decide +kernel
theorem put_l {zs : List Str} {q : Nat} {z : Str} {i : Int} (hi : i = (q : Int)) (th : ∀ y ∈ zs, isThingS y = true) (zl : zs.length ≤ 400) (hq : q ≤ zs.length) (hz : isThingS z = true) {P : D × List D → Prop} (p : P (dueT [] zs q z, [])) : OkP (Sh.den_put_in [.lst (zs.map D.str), .int i, .str z, .non]) P := by
  subst hi
  have := put_n (tp := false) (ps := zs.map Pt.one) (Near.flat th zl) (ptsA_ones zs) hq hz (P := P) p
  rw [ptsD_ones] at this
  exact this
def wd : List Str := ["a", "b", "c", "b"]
theorem wd_ok : ∀ y ∈ wd, isThingS y = true := by decide +kernel
theorem acd_ok : isThingS "c" = true ∧ isThingS "d" = true ∧ isThingS "a" = true ∧ isThingS "b" = true := by decide +kernel
theorem full_ok {P : D × List D → Prop} (p : P (.bl true, [])) : OkP (den_l_full_right []) P := by
  refine okp_def (Nat.le_of_ble_eq_true rfl) ?_
  unfold body_l_full_right; dsimp only [padE]
  walk_at "vs"
  refine ⟨rfl, (by show (4 : Nat) ≤ sizeLine; decide), ?_⟩
  walk_at "vs"
  have er : pRep (.lst (wd.map D.str)) (.int 100) = some (.lst ((List.replicate 100 wd).flatten.map D.str)) := by
    unfold pRep
    simp only []
    have c : (decide (-(2 ^ 63) ≤ (100 : Int)) && decide ((100 : Int) < 2 ^ 63) && decide ((wd.map D.str).length * (100 : Int).toNat ≤ sizeLine)) = true := by
      rw [decide_eq_true (by decide), decide_eq_true (by decide), decide_eq_true (show (wd.map D.str).length * (100 : Int).toNat ≤ sizeLine from Nat.le_trans (m := 400) (by decide) (by decide))]; rfl
    rw [if_pos c, List.map_flatten, List.map_replicate]
    rfl
  refine ⟨_, er, flats_strs _, ?_⟩
  have wt : ∀ y ∈ (List.replicate 100 wd).flatten, isThingS y = true := fun y hy => by
    obtain ⟨l, hl, hy⟩ := List.mem_flatten.mp hy
    rw [List.eq_of_mem_replicate hl] at hy
    exact wd_ok y hy
  have wl : (List.replicate 100 wd).flatten.length = 400 := by rw [List.length_flatten, List.map_replicate, List.sum_replicate_nat]; rfl
  generalize (List.replicate 100 wd).flatten = as at wt wl
  walk_at "vs"
  refine ⟨rfl, (by show (2 : Nat) ≤ sizeLine; decide), ?_⟩
  walk_at "vs"
  refine ⟨rfl, (by show (2 : Nat) ≤ sizeLine; decide), ?_⟩
  walk_at "vs"
  refine ⟨rfl, (by show (2 : Nat) ≤ sizeLine; decide), ?_⟩
  walk_at "vs"
  refine ⟨rfl, (by show (3 : Nat) ≤ sizeLine; decide), ?_⟩
  walk_at "vs"
  refine ⟨_, rfl, ?_⟩
  refine okl_for (fun j e => ∃ w1 w2, e = [some (.lst (as.map D.str)), w1, w2]) _ 0 _ ⟨_, _, rfl⟩ (fun j d e hj he => ?_) (fun e he => ?_)
  · obtain ⟨w1, w2, rfl⟩ := he
    have hd : ∃ (q : Nat) (z : Str), d = .tup [.int (q : Int), .str z] ∧ q ≤ 400 ∧ isThingS z = true := by
      have := List.mem_of_getElem? hj
      simp only [List.mem_cons, List.not_mem_nil, or_false] at this
      rcases this with rfl | rfl | rfl
      · exact ⟨400, _, rfl, by decide, acd_ok.1⟩
      · exact ⟨0, _, rfl, by decide, acd_ok.2.1⟩
      · exact ⟨200, _, rfl, by decide, acd_ok.2.2.1⟩
    obtain ⟨q, z, rfl, hq, hz⟩ := hd
    have g0 : ∀ z, -(10 ^ 30) ≤ gget [] z := fun z => by show -(10 ^ 30 : Int) ≤ 0; decide
    have shc := show_due (g := []) (as := as) (q := q) (z := z) g0 (by omega) (by omega)
    refine ⟨_, rfl, ?_⟩
    unfold bd_l_full_right_1
    walk_at "vc"
    walk_at "vs"
    refine ⟨rfl, ?_⟩
    walk_at "vs"
    refine ⟨rfl, ?_⟩
    walk_at "vs"
    refine put_l rfl wt (by omega) (by omega) hz ?_
    walk_at "vs"
    refine op_repr rfl shc ?_
    walk_at "vs"
    refine ⟨rfl, ?_⟩
    walk_at "vs"
    refine ⟨rfl, ?_⟩
    walk_at "vs"
    refine due_ok (g := []) (by omega) g0 (by omega) ?_
    walk_at "vs"
    refine op_repr rfl shc ?_
    walk_at "vs"
    refine br_f (by rw [decide_eq_true rfl]; rfl) ?_
    walk_at "vs"
    exact ⟨_, _, rfl⟩
  · obtain ⟨w1, w2, rfl⟩ := he
    walk_at "vs"
    exact ⟨_, rfl, p⟩
end V48

set_option Elab.async false
set_option linter.all false
set_option maxRecDepth 100000
set_option maxHeartbeats 4000000
set_option exponentiation.threshold 20000
namespace V48
open PySem PySem.Spec L2 MC VD VT
open PyProof.Rows hiding St
theorem one_line : (1 : Nat) ≤ sizeLine := by decide
theorem aba_ok : ∀ y ∈ [("a" : Str), "b", "a"], isThingS y = true := by decide +kernel
theorem farN : Near [Pt.ag false ["a"] 400] := by
  refine ⟨fun p hp => ?_, by decide, by decide +kernel⟩
  rw [List.mem_singleton.mp hp]
  exact ⟨by simp, by decide +kernel, by decide, by decide⟩
theorem c1a : (lngL [] (ptsA [Pt.ag false ["a"] 400]) 0 "b")[0]? = some none := by decide +kernel
theorem c1b : dueC [] (ptsA [Pt.ag false ["a"] 400]) 0 "b" = [] := by decide +kernel
theorem due1 : dueT [] (ptsA [Pt.ag false ["a"] 400]) 0 "b" = .tup [.non, .lst []] := by unfold dueT; rw [c1a, c1b]; rfl
theorem c2a : (lngL [] [] 0 "a")[0]? = some none := by decide +kernel
theorem c2b : dueC [] [] 0 "a" = [] := by decide +kernel
theorem due2 : dueT [] [] 0 "a" = .tup [.non, .lst []] := by unfold dueT; rw [c2a, c2b]; rfl
theorem c3a : (lngL [] ["a", "b", "a"] 1 "c")[1]? = some none := by decide +kernel
theorem c3b : dueC [] ["a", "b", "a"] 1 "c" = [(2, some 1, some 2)] := by decide +kernel
theorem due3 : dueT [] ["a", "b", "a"] 1 "c" = .tup [.non, .lst [.tup [.int 2, .int 1, .int 2]]] := by unfold dueT; rw [c3a, c3b]; rfl
theorem law_true (ns : List Int) (hn : ns.length ≤ 63) : den_law [.ro ns] = some (.bl true, []) := by
  refine OkP.eq (a := (D.bl true, ([] : List D))) ?_
  refine okp_def (Nat.le_of_ble_eq_true rfl) ?_
  unfold body_law; dsimp only [padE]
  walk_at "vs"
  refine ⟨rangeI 0 1 (max 1 (min 4 (ns.length : Int))).toNat, by unfold rng1P; simp only []; rw [if_pos (by unfold smallB; simp; omega)], ?_⟩
  refine okl_for (fun i e => ∃ w1 w2 w3 w4 w5 w6 w7 w8, e = [some (.ro ns), w1, w2, w3, w4, w5, w6, w7, w8]) _ 0 _ ⟨_, _, _, _, _, _, _, _, rfl⟩ (fun i d e hi he => ?_) (fun e he => ?_)
  · obtain ⟨w1, w2, w3, w4, w5, w6, w7, w8, rfl⟩ := he
    obtain ⟨rfl, il⟩ := rng_at hi
    refine ⟨_, rfl, ?_⟩
    unfold bd_law_3
    walk_at "vc"
    walk_at "vs"
    refine ⟨rfl, ?_⟩
    walk_at "vs"
    refine jar_ok (fun u h1 => ?_) (by omega)
    walk_at "vc"
    walk_at "vs"
    refine ⟨rfl, (by show (3 : Nat) ≤ sizeLine; decide), ?_⟩
    walk_at "vs"
    refine pour_ok h1 (by omega) (by decide) (by decide) fun r1 u r10 r11 h1 => ?_
    walk_at "vc"
    have hm : ∃ m, atI [D.int 40, .int 150, .int 400] r1 = some (.int m) ∧ 0 ≤ m ∧ m ≤ 400 := by
      obtain ⟨d, hd1, hd2⟩ := at_lst (xs := [D.int 40, .int 150, .int 400]) r10 r11
      simp only [List.mem_cons, List.not_mem_nil, or_false] at hd1
      rcases hd1 with rfl | rfl | rfl
      · exact ⟨_, hd2, by omega, by omega⟩
      · exact ⟨_, hd2, by omega, by omega⟩
      · exact ⟨_, hd2, by omega, by omega⟩
    obtain ⟨m3, hm1, hm2, hm3⟩ := hm
    refine op_ixL hm1 ?_
    walk_at "vs"
    refine ⟨rfl, (by show (2 : Nat) ≤ sizeLine; decide), ?_⟩
    walk_at "vs"
    refine ⟨[.int 40, .int m3], rfl, ?_⟩
    refine okl_for (fun j e => ∃ u w3 w4 w5 w6 w7 w8, e = [some (.ro ns), some (.int i), some u, w3, w4, w5, w6, w7, w8] ∧ OkU (1 + 20000 * j) u) _ 0 _ ⟨u, _, _, _, _, _, _, rfl, h1.mono (by omega)⟩ (fun j d e hj he => ?_) (fun e he => ?_)
    · obtain ⟨u, w3, w4, w5, w6, w7, w8, rfl, h1⟩ := he
      have jl : j < 2 := (List.getElem?_eq_some_iff.mp hj).1
      have hd : ∃ m, d = .int m ∧ 0 ≤ m ∧ m ≤ 400 := by
        have := List.mem_of_getElem? hj
        simp only [List.mem_cons, List.not_mem_nil, or_false] at this
        rcases this with rfl | rfl
        · exact ⟨_, rfl, by omega, by omega⟩
        · exact ⟨_, rfl, hm2, hm3⟩
      obtain ⟨m, rfl, m1, m2⟩ := hd
      rw [Nat.zero_add] at h1 ⊢
      refine ⟨_, rfl, ?_⟩
      unfold bd_law_2
      walk_at "vc"
      walk_at "vs"
      refine ⟨rfl, (by show (3 : Nat) ≤ sizeLine; decide), ?_⟩
      walk_at "vs"
      refine pour_ok h1 (by omega) (by decide) (by decide) fun r2 u r20 r21 h1 => ?_
      walk_at "vc"
      have hq : ∃ q, atI [D.int 4, .int 12, .int 59] r2 = some (.int q) ∧ 1 ≤ q ∧ q ≤ 60 := by
        obtain ⟨d, hd1, hd2⟩ := at_lst (xs := [D.int 4, .int 12, .int 59]) r20 r21
        simp only [List.mem_cons, List.not_mem_nil, or_false] at hd1
        rcases hd1 with rfl | rfl | rfl
        · exact ⟨_, hd2, by omega, by omega⟩
        · exact ⟨_, hd2, by omega, by omega⟩
        · exact ⟨_, hd2, by omega, by omega⟩
      obtain ⟨q, hq1, hq2, hq3⟩ := hq
      refine op_ixL hq1 ?_
      walk_at "vs"
      refine pour_ok h1 (by omega) (by omega) (by omega) fun r3 u r30 r31 h1 => ?_
      walk_at "vc"
      walk_at "vs"
      refine named_ok h1 (by omega) (by omega) (by omega) fun zs u zl tz h1 => ?_
      walk_at "vc"
      walk_at "vs"
      refine ⟨rfl, ?_⟩
      walk_at "vs"
      refine asks_ok h1 (by omega) tz (by omega) (by omega) m1 m2 fun as u al am h1 => ?_
      have ta : ∀ z ∈ as, isThingS z = true := fun z hz => tz z (am z hz)
      walk_at "vc"
      walk_at "vs"
      refine graced_ok h1 (by omega) tz (by omega) fun g u hg gl h1 => ?_
      walk_at "vc"
      walk_at "vs"
      rw [List.length_map]
      refine ⟨_, rfl, ?_⟩
      refine op_mul' (i := 3) (j := if decide ((200 : Int) < (as.length : Nat)) = true then 1 else 0) (by split <;> decide) ?_
      walk_at "vs"
      obtain ⟨turns, ht, ht1⟩ : ∃ t : Nat, (6 : Int) - 3 * (if decide ((200 : Int) < (as.length : Nat)) = true then 1 else 0) = (t : Int) ∧ t ≤ 6 := by
        split
        · exact ⟨3, by omega, by omega⟩
        · exact ⟨6, by omega, by omega⟩
      rw [ht]
      refine ⟨rangeI 0 1 (turns : Int).toNat, by unfold rng1P; simp only []; rw [if_pos (by unfold smallB; simp; omega)], ?_⟩
      refine okl_for (fun k e => ∃ (u : D) (as : List Str) (g : List (Str × Int)) (w7 w8 : Option D), e = [some (.ro ns), some (.int i), some u, some (.int m), some (.lst (zs.map D.str)), some (.lst (as.map D.str)), some (.dct (dctP g)), w7, w8] ∧ OkU (1 + 20000 * j + 2200 + 1500 * k) u ∧ as.length ≤ 400 ∧ (∀ z ∈ as, isThingS z = true) ∧ GrB g ∧ g.length ≤ 60 + k) _ 0 _ ⟨u, as, g, _, _, rfl, h1.mono (by omega), by omega, ta, hg, gl⟩ (fun k d e hk he => ?_) (fun e he => ?_)
      · clear ht
        obtain ⟨u, as, g, w7, w8, rfl, h1, al, ta, hg, gl⟩ := he
        obtain ⟨rfl, kl⟩ := rng_at hk
        have kl : k < 6 := by omega
        rw [Nat.zero_add] at h1 gl ⊢
        refine ⟨_, rfl, ?_⟩
        unfold bd_law_1
        walk_at "vc"
        walk_at "vs"
        refine ⟨rfl, (by show (1 : Nat) ≤ sizeLine; decide), ?_⟩
        refine op_catS (f := D.str) (ys := ["newone"]) (by simp; omega) ⟨flats_strs _, ?_⟩
        walk_at "vs"
        rw [List.length_map]
        refine pour_ok h1 (by omega) (by omega) (by omega) fun r u r0 r1 h1 => ?_
        walk_at "vc"
        obtain ⟨z, hz1, hz2⟩ := VT.strs_at (zs := zs ++ [("newone" : Str)]) (r := r) r0 (by rw [List.length_append]; show r < ((zs.length + 1 : Nat) : Int); omega)
        have tz1 : isThingS z = true := by
          rcases List.mem_append.mp hz1 with hz1 | hz1
          · exact tz z hz1
          · rw [List.mem_singleton.mp hz1]; exact newone_ok
        refine op_ixL hz2 ?_
        walk_at "vs"
        refine ⟨rfl, ?_⟩
        walk_at "vs"
        refine right_ok h1 (by omega) ta (by omega) hg tz1 fun u h1 => ?_
        walk_at "vc"
        walk_at "vs"
        have fin : ∀ e2, e2 = [some (.ro ns), some (.int i), some u, some (.int m), some (.lst (zs.map D.str)), some (.lst (as.map D.str)), some (.dct (dctP g)), some (.int (k : Int)), some (.str z)] → ∃ (u : D) (as : List Str) (g : List (Str × Int)) (w7 w8 : Option D), e2 = [some (.ro ns), some (.int i), some u, some (.int m), some (.lst (zs.map D.str)), some (.lst (as.map D.str)), some (.dct (dctP g)), w7, w8] ∧ OkU (1 + 20000 * j + 2200 + 1500 * (k + 1)) u ∧ as.length ≤ 400 ∧ (∀ z ∈ as, isThingS z = true) ∧ GrB g ∧ g.length ≤ 60 + (k + 1) := fun e2 h => ⟨u, as, g, _, _, h, h1.mono (by omega), al, ta, hg, by omega⟩
        refine ⟨fun _ => ?_, fun _ => ?_⟩
        · walk_at "vs"
          refine ⟨rfl, (by show (0 : Nat) ≤ sizeLine; decide), ?_⟩
          refine ned_strs (b := []) ta (by simp) ?_
          walk_at "vs"
          refine ⟨fun hne => ?_, fun _ => ?_⟩
          · have ne : as ≠ [] := by simpa using hne
            clear fin
            obtain ⟨y, rs, rfl⟩ := List.exists_cons_of_ne_nil ne
            have tq : ∀ x ∈ rs ++ [y], isThingS x = true := fun x hx => by
              rcases List.mem_append.mp hx with hx | hx
              · exact ta x (by simp [hx])
              · rw [List.mem_singleton.mp hx]; exact ta y (by simp)
            have rl : rs.length ≤ 399 := by rw [List.length_cons] at al; omega
            walk_at "vs"
            refine op_popAt (xs := (y :: rs).map D.str) (y := .str y) (Int.le_refl 0) rfl (Nat.lt_of_le_of_lt (show _ ≤ 400 by rw [List.length_map]; omega) (by decide)) ?_
            walk_at "vc"
            refine ⟨rfl, ?_⟩
            walk_at "vs"
            refine ⟨(.non, (rs ++ [y]).map D.str), by show mAppend (rs.map D.str) [.str y] = _; unfold mAppend; simp only []; rw [if_pos (by rw [Bool.and_eq_true]; exact ⟨rfl, decide_eq_true (Nat.lt_of_le_of_lt (show _ ≤ 400 by rw [List.length_map]; omega) (by decide))⟩), List.map_append]; rfl, ?_⟩
            walk_at "vc"
            walk_at "vs"
            refine pour_ok h1 (by omega) (by decide) (by decide) fun v u v0 v1 h1 => ?_
            walk_at "vc"
            walk_at "vs"
            have zl0 : 0 < zs.length := by omega
            refine op_ixL (d := .str (zs[0]'zl0)) (atI_nat' (i := 0) (by rw [List.getElem?_map, List.getElem?_eq_getElem zl0]; rfl)) ?_
            walk_at "vs"
            refine ⟨_, rfl, rfl, Nat.lt_of_le_of_lt (show _ ≤ 100 by rw [len_dctP]; omega) (by decide), ?_⟩
            walk_at "vc"
            rw [put_dctP]
            have := putP_len g (zs[0]'zl0) (v - 1)
            exact ⟨u, rs ++ [y], putP g (zs[0]'zl0) (v - 1), _, _, rfl, h1.mono (by omega), by rw [List.length_append, List.length_singleton]; omega, tq, hg.put (by omega) (tz _ (List.getElem_mem zl0)) ⟨by omega, by omega⟩, by omega⟩
          · walk_at "vs"
            exact fin _ rfl
        · walk_at "vs"
          exact fin _ rfl
      · obtain ⟨u, as, g, w7, w8, rfl, h1, al, ta, hg, gl⟩ := he
        rw [rng_len] at h1
        walk_at "vs"
        exact ⟨u, _, _, _, _, _, _, rfl, h1.mono (by omega)⟩
    · obtain ⟨u, w3, w4, w5, w6, w7, w8, rfl, h1⟩ := he
      exact ⟨_, _, _, _, _, _, _, _, rfl⟩
  · obtain ⟨w1, w2, w3, w4, w5, w6, w7, w8, rfl⟩ := he
    walk_at "vs"
    refine full_ok ?_
    walk_at "vc"
    walk_at "vs"
    refine ⟨rfl, one_line, ?_⟩
    walk_at "vs"
    refine ⟨rfl, two_line, ?_⟩
    walk_at "vs"
    refine ⟨rfl, one_line, ?_⟩
    walk_at "vs"
    refine put_n (tp := false) (ps := [Pt.ag false ["a"] 400]) (q := 0) (z := "b") farN rfl (Nat.zero_le _) acd_ok.2.2.2 ?_
    rw [due1]
    walk_at "vs"
    refine ⟨rfl, (by show (0 : Nat) ≤ sizeLine; decide), ?_⟩
    walk_at "vs"
    refine ⟨rfl, two_line, ?_⟩
    refine ⟨_, rfl, ?_⟩
    refine ⟨_, rfl, ?_⟩
    refine br_f rfl ?_
    walk_at "vs"
    refine ⟨rfl, (by show (0 : Nat) ≤ sizeLine; decide), ?_⟩
    walk_at "vs"
    refine put_l (zs := []) (q := 0) (z := "a") rfl (by simp) (by decide) (by decide) acd_ok.2.2.1 ?_
    rw [due2]
    walk_at "vs"
    refine ⟨rfl, (by show (0 : Nat) ≤ sizeLine; decide), ?_⟩
    walk_at "vs"
    refine ⟨rfl, two_line, ?_⟩
    refine ⟨_, rfl, ?_⟩
    walk_at "vs"
    refine ⟨rfl, (by show (3 : Nat) ≤ sizeLine; decide), ?_⟩
    walk_at "vs"
    refine put_l (zs := ["a", "b", "a"]) (q := 1) (z := "c") rfl aba_ok (by decide) (by decide) acd_ok.1 ?_
    rw [due3]
    walk_at "vs"
    refine ⟨rfl, (by show (3 : Nat) ≤ sizeLine; decide), ?_⟩
    walk_at "vs"
    refine ⟨rfl, one_line, ?_⟩
    walk_at "vs"
    refine ⟨rfl, two_line, ?_⟩
    refine ⟨_, rfl, ?_⟩
    exact ⟨_, rfl, rfl⟩
end V48

set_option Elab.async false
set_option linter.all false
set_option maxRecDepth 100000
set_option maxHeartbeats 4000000
set_option exponentiation.threshold 20000
namespace V48
open PySem PySem.Spec L2 MC VD
open PyProof.Rows hiding St
theorem all_mk {l : PySem.W.OpenLaw} {w : World} {K : PySem.W.Frag} {h : Heap} {mg : Str → Option Value} {fa : Addr} (X : K.In h) (G : h.Ns mainGlobals mg) (hfa : mg "law" = some (.ref fa))
    {f_is_whole : Addr} {od_is_whole an_is_whole : Option Addr} {sl_is_whole : Array (Option Value)} {oc_is_whole dc_is_whole pm_is_whole cd_is_whole ct_is_whole : Value} {kV_is_whole : Value} {f_are_small : Addr} {od_are_small an_are_small : Option Addr} {sl_are_small : Array (Option Value)} {oc_are_small dc_are_small pm_are_small cd_are_small ct_are_small : Value} {kV_are_small : Value} {f_is_thing : Addr} {od_is_thing an_is_thing : Option Addr} {sl_is_thing : Array (Option Value)} {oc_is_thing dc_is_thing pm_is_thing cd_is_thing ct_is_thing : Value} {kV_is_thing : Value} {f_are_things : Addr} {od_are_things an_are_things : Option Addr} {sl_are_things : Array (Option Value)} {oc_are_things dc_are_things pm_are_things cd_are_things ct_are_things : Value} {kV_are_things : Value} {f_looks_again : Addr} {od_looks_again an_looks_again : Option Addr} {sl_looks_again : Array (Option Value)} {oc_looks_again dc_looks_again pm_looks_again cd_looks_again ct_looks_again : Value} {kV_looks_again : Value} {f_is_row : Addr} {od_is_row an_is_row : Option Addr} {sl_is_row : Array (Option Value)} {oc_is_row dc_is_row pm_is_row cd_is_row ct_is_row : Value} {kV_is_row : Value} {f_check_row : Addr} {od_check_row an_check_row : Option Addr} {sl_check_row : Array (Option Value)} {oc_check_row dc_check_row pm_check_row cd_check_row ct_check_row : Value} {kV_check_row : Value} {f_count_asks : Addr} {od_count_asks an_count_asks : Option Addr} {sl_count_asks : Array (Option Value)} {oc_count_asks dc_count_asks pm_count_asks cd_count_asks ct_count_asks : Value} {kV_count_asks : Value} {f_check_near : Addr} {od_check_near an_check_near : Option Addr} {sl_check_near : Array (Option Value)} {oc_check_near dc_check_near pm_check_near cd_check_near ct_check_near : Value} {kV_check_near : Value} {f_laid_out : Addr} {od_laid_out an_laid_out : Option Addr} {sl_laid_out : Array (Option Value)} {oc_laid_out dc_laid_out pm_laid_out cd_laid_out ct_laid_out : Value} {kV_laid_out : Value} {f_near : Addr} {od_near an_near : Option Addr} {sl_near : Array (Option Value)} {oc_near dc_near pm_near cd_near ct_near : Value} {kV_near : Value} {f_check_thing : Addr} {od_check_thing an_check_thing : Option Addr} {sl_check_thing : Array (Option Value)} {oc_check_thing dc_check_thing pm_check_thing cd_check_thing ct_check_thing : Value} {kV_check_thing : Value} {f_check_place : Addr} {od_check_place an_check_place : Option Addr} {sl_check_place : Array (Option Value)} {oc_check_place dc_check_place pm_check_place cd_check_place ct_check_place : Value} {kV_check_place : Value} {f_lowest_of : Addr} {od_lowest_of an_lowest_of : Option Addr} {sl_lowest_of : Array (Option Value)} {oc_lowest_of dc_lowest_of pm_lowest_of cd_lowest_of ct_lowest_of : Value} {kV_lowest_of : Value} {f_with_lowest : Addr} {od_with_lowest an_with_lowest : Option Addr} {sl_with_lowest : Array (Option Value)} {oc_with_lowest dc_with_lowest pm_with_lowest cd_with_lowest ct_with_lowest : Value} {kV_with_lowest : Value} {f_checked_graces : Addr} {od_checked_graces an_checked_graces : Option Addr} {sl_checked_graces : Array (Option Value)} {oc_checked_graces dc_checked_graces pm_checked_graces cd_checked_graces ct_checked_graces : Value} {kV_checked_graces : Value} {f_depth_behind : Addr} {od_depth_behind an_depth_behind : Option Addr} {sl_depth_behind : Array (Option Value)} {oc_depth_behind dc_depth_behind pm_depth_behind cd_depth_behind ct_depth_behind : Value} {kV_depth_behind : Value} {f_reckoned : Addr} {od_reckoned an_reckoned : Option Addr} {sl_reckoned : Array (Option Value)} {oc_reckoned dc_reckoned pm_reckoned cd_reckoned ct_reckoned : Value} {kV_reckoned : Value} {f_changes : Addr} {od_changes an_changes : Option Addr} {sl_changes : Array (Option Value)} {oc_changes dc_changes pm_changes cd_changes ct_changes : Value} {kV_changes : Value} {f_put_in : Addr} {od_put_in an_put_in : Option Addr} {sl_put_in : Array (Option Value)} {oc_put_in dc_put_in pm_put_in cd_put_in ct_put_in : Value} {D_put_in : Addr} {f_l_jar : Addr} {od_l_jar an_l_jar : Option Addr} {sl_l_jar : Array (Option Value)} {oc_l_jar dc_l_jar pm_l_jar cd_l_jar ct_l_jar : Value} {kV_l_jar : Value} {f_l_pour : Addr} {od_l_pour an_l_pour : Option Addr} {sl_l_pour : Array (Option Value)} {oc_l_pour dc_l_pour pm_l_pour cd_l_pour ct_l_pour : Value} {kV_l_pour : Value} {f_l_named : Addr} {od_l_named an_l_named : Option Addr} {sl_l_named : Array (Option Value)} {oc_l_named dc_l_named pm_l_named cd_l_named ct_l_named : Value} {kV_l_named : Value} {f_l_asks : Addr} {od_l_asks an_l_asks : Option Addr} {sl_l_asks : Array (Option Value)} {oc_l_asks dc_l_asks pm_l_asks cd_l_asks ct_l_asks : Value} {kV_l_asks : Value} {f_l_graced : Addr} {od_l_graced an_l_graced : Option Addr} {sl_l_graced : Array (Option Value)} {oc_l_graced dc_l_graced pm_l_graced cd_l_graced ct_l_graced : Value} {kV_l_graced : Value} {f_l_folded : Addr} {od_l_folded an_l_folded : Option Addr} {sl_l_folded : Array (Option Value)} {oc_l_folded dc_l_folded pm_l_folded cd_l_folded ct_l_folded : Value} {kV_l_folded : Value} {f_l_depth_of : Addr} {od_l_depth_of an_l_depth_of : Option Addr} {sl_l_depth_of : Array (Option Value)} {oc_l_depth_of dc_l_depth_of pm_l_depth_of cd_l_depth_of ct_l_depth_of : Value} {kV_l_depth_of : Value} {f_l_depths : Addr} {od_l_depths an_l_depths : Option Addr} {sl_l_depths : Array (Option Value)} {oc_l_depths dc_l_depths pm_l_depths cd_l_depths ct_l_depths : Value} {kV_l_depths : Value} {f_l_changes : Addr} {od_l_changes an_l_changes : Option Addr} {sl_l_changes : Array (Option Value)} {oc_l_changes dc_l_changes pm_l_changes cd_l_changes ct_l_changes : Value} {kV_l_changes : Value} {f_l_due : Addr} {od_l_due an_l_due : Option Addr} {sl_l_due : Array (Option Value)} {oc_l_due dc_l_due pm_l_due cd_l_due ct_l_due : Value} {kV_l_due : Value} {f_l_right : Addr} {od_l_right an_l_right : Option Addr} {sl_l_right : Array (Option Value)} {oc_l_right dc_l_right pm_l_right cd_l_right ct_l_right : Value} {kV_l_right : Value} {f_l_full_right : Addr} {od_l_full_right an_l_full_right : Option Addr} {sl_l_full_right : Array (Option Value)} {oc_l_full_right dc_l_full_right pm_l_full_right cd_l_full_right ct_l_full_right : Value} {kV_l_full_right : Value} {f_law : Addr} {od_law an_law : Option Addr} {sl_law : Array (Option Value)} {oc_law dc_law pm_law cd_law ct_law : Value} {kV_law : Value} {t_DEEPEST_ROW : Nat} {t_LONGEST_THING : Nat} {t_MOST_NEAR : Nat} {t_MOST_TIMES : Nat} {osys : Obj}
    (a_is_whole : PySem.W.nsIn K mainGlobals "is_whole" = some (some (.ref f_is_whole))) (l_is_whole : K.lookup f_is_whole = some ⟨oc_is_whole, od_is_whole, .func (PySem.W.fnOf "is_whole" "is_whole" (defArgs s_is_whole) (defBody s_is_whole) (defScope s_is_whole) .none kV_is_whole dc_is_whole pm_is_whole an_is_whole cd_is_whole ct_is_whole), sl_is_whole⟩) (w_is_whole : PySem.W.codeIn K cd_is_whole "is_whole" = true) (k_is_whole : PySem.W.keepIn K (.ref f_is_whole) = true)
    (a_are_small : PySem.W.nsIn K mainGlobals "are_small" = some (some (.ref f_are_small))) (l_are_small : K.lookup f_are_small = some ⟨oc_are_small, od_are_small, .func (PySem.W.fnOf "are_small" "are_small" (defArgs s_are_small) (defBody s_are_small) (defScope s_are_small) .none kV_are_small dc_are_small pm_are_small an_are_small cd_are_small ct_are_small), sl_are_small⟩) (w_are_small : PySem.W.codeIn K cd_are_small "are_small" = true) (k_are_small : PySem.W.keepIn K (.ref f_are_small) = true)
    (a_is_thing : PySem.W.nsIn K mainGlobals "is_thing" = some (some (.ref f_is_thing))) (l_is_thing : K.lookup f_is_thing = some ⟨oc_is_thing, od_is_thing, .func (PySem.W.fnOf "is_thing" "is_thing" (defArgs s_is_thing) (defBody s_is_thing) (defScope s_is_thing) .none kV_is_thing dc_is_thing pm_is_thing an_is_thing cd_is_thing ct_is_thing), sl_is_thing⟩) (w_is_thing : PySem.W.codeIn K cd_is_thing "is_thing" = true) (k_is_thing : PySem.W.keepIn K (.ref f_is_thing) = true)
    (a_are_things : PySem.W.nsIn K mainGlobals "are_things" = some (some (.ref f_are_things))) (l_are_things : K.lookup f_are_things = some ⟨oc_are_things, od_are_things, .func (PySem.W.fnOf "are_things" "are_things" (defArgs s_are_things) (defBody s_are_things) (defScope s_are_things) .none kV_are_things dc_are_things pm_are_things an_are_things cd_are_things ct_are_things), sl_are_things⟩) (w_are_things : PySem.W.codeIn K cd_are_things "are_things" = true) (k_are_things : PySem.W.keepIn K (.ref f_are_things) = true)
    (a_looks_again : PySem.W.nsIn K mainGlobals "_looks_again" = some (some (.ref f_looks_again))) (l_looks_again : K.lookup f_looks_again = some ⟨oc_looks_again, od_looks_again, .func (PySem.W.fnOf "_looks_again" "_looks_again" (defArgs s_looks_again) (defBody s_looks_again) (defScope s_looks_again) .none kV_looks_again dc_looks_again pm_looks_again an_looks_again cd_looks_again ct_looks_again), sl_looks_again⟩) (w_looks_again : PySem.W.codeIn K cd_looks_again "_looks_again" = true) (k_looks_again : PySem.W.keepIn K (.ref f_looks_again) = true)
    (a_is_row : PySem.W.nsIn K mainGlobals "is_row" = some (some (.ref f_is_row))) (l_is_row : K.lookup f_is_row = some ⟨oc_is_row, od_is_row, .func (PySem.W.fnOf "is_row" "is_row" (defArgs s_is_row) (defBody s_is_row) (defScope s_is_row) .none kV_is_row dc_is_row pm_is_row an_is_row cd_is_row ct_is_row), sl_is_row⟩) (w_is_row : PySem.W.codeIn K cd_is_row "is_row" = true) (k_is_row : PySem.W.keepIn K (.ref f_is_row) = true)
    (a_check_row : PySem.W.nsIn K mainGlobals "check_row" = some (some (.ref f_check_row))) (l_check_row : K.lookup f_check_row = some ⟨oc_check_row, od_check_row, .func (PySem.W.fnOf "check_row" "check_row" (defArgs s_check_row) (defBody s_check_row) (defScope s_check_row) .none kV_check_row dc_check_row pm_check_row an_check_row cd_check_row ct_check_row), sl_check_row⟩) (w_check_row : PySem.W.codeIn K cd_check_row "check_row" = true) (k_check_row : PySem.W.keepIn K (.ref f_check_row) = true)
    (a_count_asks : PySem.W.nsIn K mainGlobals "count_asks" = some (some (.ref f_count_asks))) (l_count_asks : K.lookup f_count_asks = some ⟨oc_count_asks, od_count_asks, .func (PySem.W.fnOf "count_asks" "count_asks" (defArgs s_count_asks) (defBody s_count_asks) (defScope s_count_asks) .none kV_count_asks dc_count_asks pm_count_asks an_count_asks cd_count_asks ct_count_asks), sl_count_asks⟩) (w_count_asks : PySem.W.codeIn K cd_count_asks "count_asks" = true) (k_count_asks : PySem.W.keepIn K (.ref f_count_asks) = true)
    (a_check_near : PySem.W.nsIn K mainGlobals "check_near" = some (some (.ref f_check_near))) (l_check_near : K.lookup f_check_near = some ⟨oc_check_near, od_check_near, .func (PySem.W.fnOf "check_near" "check_near" (defArgs s_check_near) (defBody s_check_near) (defScope s_check_near) .none kV_check_near dc_check_near pm_check_near an_check_near cd_check_near ct_check_near), sl_check_near⟩) (w_check_near : PySem.W.codeIn K cd_check_near "check_near" = true) (k_check_near : PySem.W.keepIn K (.ref f_check_near) = true)
    (a_laid_out : PySem.W.nsIn K mainGlobals "laid_out" = some (some (.ref f_laid_out))) (l_laid_out : K.lookup f_laid_out = some ⟨oc_laid_out, od_laid_out, .func (PySem.W.fnOf "laid_out" "laid_out" (defArgs s_laid_out) (defBody s_laid_out) (defScope s_laid_out) .none kV_laid_out dc_laid_out pm_laid_out an_laid_out cd_laid_out ct_laid_out), sl_laid_out⟩) (w_laid_out : PySem.W.codeIn K cd_laid_out "laid_out" = true) (k_laid_out : PySem.W.keepIn K (.ref f_laid_out) = true)
    (a_near : PySem.W.nsIn K mainGlobals "near" = some (some (.ref f_near))) (l_near : K.lookup f_near = some ⟨oc_near, od_near, .func (PySem.W.fnOf "near" "near" (defArgs s_near) (defBody s_near) (defScope s_near) .none kV_near dc_near pm_near an_near cd_near ct_near), sl_near⟩) (w_near : PySem.W.codeIn K cd_near "near" = true) (k_near : PySem.W.keepIn K (.ref f_near) = true)
    (a_check_thing : PySem.W.nsIn K mainGlobals "check_thing" = some (some (.ref f_check_thing))) (l_check_thing : K.lookup f_check_thing = some ⟨oc_check_thing, od_check_thing, .func (PySem.W.fnOf "check_thing" "check_thing" (defArgs s_check_thing) (defBody s_check_thing) (defScope s_check_thing) .none kV_check_thing dc_check_thing pm_check_thing an_check_thing cd_check_thing ct_check_thing), sl_check_thing⟩) (w_check_thing : PySem.W.codeIn K cd_check_thing "check_thing" = true) (k_check_thing : PySem.W.keepIn K (.ref f_check_thing) = true)
    (a_check_place : PySem.W.nsIn K mainGlobals "check_place" = some (some (.ref f_check_place))) (l_check_place : K.lookup f_check_place = some ⟨oc_check_place, od_check_place, .func (PySem.W.fnOf "check_place" "check_place" (defArgs s_check_place) (defBody s_check_place) (defScope s_check_place) .none kV_check_place dc_check_place pm_check_place an_check_place cd_check_place ct_check_place), sl_check_place⟩) (w_check_place : PySem.W.codeIn K cd_check_place "check_place" = true) (k_check_place : PySem.W.keepIn K (.ref f_check_place) = true)
    (a_lowest_of : PySem.W.nsIn K mainGlobals "_lowest_of" = some (some (.ref f_lowest_of))) (l_lowest_of : K.lookup f_lowest_of = some ⟨oc_lowest_of, od_lowest_of, .func (PySem.W.fnOf "_lowest_of" "_lowest_of" (defArgs s_lowest_of) (defBody s_lowest_of) (defScope s_lowest_of) .none kV_lowest_of dc_lowest_of pm_lowest_of an_lowest_of cd_lowest_of ct_lowest_of), sl_lowest_of⟩) (w_lowest_of : PySem.W.codeIn K cd_lowest_of "_lowest_of" = true) (k_lowest_of : PySem.W.keepIn K (.ref f_lowest_of) = true)
    (a_with_lowest : PySem.W.nsIn K mainGlobals "_with_lowest" = some (some (.ref f_with_lowest))) (l_with_lowest : K.lookup f_with_lowest = some ⟨oc_with_lowest, od_with_lowest, .func (PySem.W.fnOf "_with_lowest" "_with_lowest" (defArgs s_with_lowest) (defBody s_with_lowest) (defScope s_with_lowest) .none kV_with_lowest dc_with_lowest pm_with_lowest an_with_lowest cd_with_lowest ct_with_lowest), sl_with_lowest⟩) (w_with_lowest : PySem.W.codeIn K cd_with_lowest "_with_lowest" = true) (k_with_lowest : PySem.W.keepIn K (.ref f_with_lowest) = true)
    (a_checked_graces : PySem.W.nsIn K mainGlobals "checked_graces" = some (some (.ref f_checked_graces))) (l_checked_graces : K.lookup f_checked_graces = some ⟨oc_checked_graces, od_checked_graces, .func (PySem.W.fnOf "checked_graces" "checked_graces" (defArgs s_checked_graces) (defBody s_checked_graces) (defScope s_checked_graces) .none kV_checked_graces dc_checked_graces pm_checked_graces an_checked_graces cd_checked_graces ct_checked_graces), sl_checked_graces⟩) (w_checked_graces : PySem.W.codeIn K cd_checked_graces "checked_graces" = true) (k_checked_graces : PySem.W.keepIn K (.ref f_checked_graces) = true)
    (a_depth_behind : PySem.W.nsIn K mainGlobals "depth_behind" = some (some (.ref f_depth_behind))) (l_depth_behind : K.lookup f_depth_behind = some ⟨oc_depth_behind, od_depth_behind, .func (PySem.W.fnOf "depth_behind" "depth_behind" (defArgs s_depth_behind) (defBody s_depth_behind) (defScope s_depth_behind) .none kV_depth_behind dc_depth_behind pm_depth_behind an_depth_behind cd_depth_behind ct_depth_behind), sl_depth_behind⟩) (w_depth_behind : PySem.W.codeIn K cd_depth_behind "depth_behind" = true) (k_depth_behind : PySem.W.keepIn K (.ref f_depth_behind) = true)
    (a_reckoned : PySem.W.nsIn K mainGlobals "reckoned" = some (some (.ref f_reckoned))) (l_reckoned : K.lookup f_reckoned = some ⟨oc_reckoned, od_reckoned, .func (PySem.W.fnOf "reckoned" "reckoned" (defArgs s_reckoned) (defBody s_reckoned) (defScope s_reckoned) .none kV_reckoned dc_reckoned pm_reckoned an_reckoned cd_reckoned ct_reckoned), sl_reckoned⟩) (w_reckoned : PySem.W.codeIn K cd_reckoned "reckoned" = true) (k_reckoned : PySem.W.keepIn K (.ref f_reckoned) = true)
    (a_changes : PySem.W.nsIn K mainGlobals "_changes" = some (some (.ref f_changes))) (l_changes : K.lookup f_changes = some ⟨oc_changes, od_changes, .func (PySem.W.fnOf "_changes" "_changes" (defArgs s_changes) (defBody s_changes) (defScope s_changes) .none kV_changes dc_changes pm_changes an_changes cd_changes ct_changes), sl_changes⟩) (w_changes : PySem.W.codeIn K cd_changes "_changes" = true) (k_changes : PySem.W.keepIn K (.ref f_changes) = true)
    (a_put_in : PySem.W.nsIn K mainGlobals "put_in" = some (some (.ref f_put_in))) (l_put_in : K.lookup f_put_in = some ⟨oc_put_in, od_put_in, .func (PySem.W.fnOf "put_in" "put_in" (defArgs s_put_in) (defBody s_put_in) (defScope s_put_in) .none (.ref D_put_in) dc_put_in pm_put_in an_put_in cd_put_in ct_put_in), sl_put_in⟩) (w_put_in : PySem.W.codeIn K cd_put_in "put_in" = true) (k_put_in : PySem.W.keepIn K (.ref f_put_in) = true)
    (d_put_in_graces : PySem.W.nsIn K D_put_in "graces" = some (some .none))
    (a_l_jar : PySem.W.nsIn K mainGlobals "_law_jar" = some (some (.ref f_l_jar))) (l_l_jar : K.lookup f_l_jar = some ⟨oc_l_jar, od_l_jar, .func (PySem.W.fnOf "_law_jar" "_law_jar" (defArgs s_l_jar) (defBody s_l_jar) (defScope s_l_jar) .none kV_l_jar dc_l_jar pm_l_jar an_l_jar cd_l_jar ct_l_jar), sl_l_jar⟩) (w_l_jar : PySem.W.codeIn K cd_l_jar "_law_jar" = true) (k_l_jar : PySem.W.keepIn K (.ref f_l_jar) = true)
    (a_l_pour : PySem.W.nsIn K mainGlobals "_law_pour" = some (some (.ref f_l_pour))) (l_l_pour : K.lookup f_l_pour = some ⟨oc_l_pour, od_l_pour, .func (PySem.W.fnOf "_law_pour" "_law_pour" (defArgs s_l_pour) (defBody s_l_pour) (defScope s_l_pour) .none kV_l_pour dc_l_pour pm_l_pour an_l_pour cd_l_pour ct_l_pour), sl_l_pour⟩) (w_l_pour : PySem.W.codeIn K cd_l_pour "_law_pour" = true) (k_l_pour : PySem.W.keepIn K (.ref f_l_pour) = true)
    (a_l_named : PySem.W.nsIn K mainGlobals "_law_named" = some (some (.ref f_l_named))) (l_l_named : K.lookup f_l_named = some ⟨oc_l_named, od_l_named, .func (PySem.W.fnOf "_law_named" "_law_named" (defArgs s_l_named) (defBody s_l_named) (defScope s_l_named) .none kV_l_named dc_l_named pm_l_named an_l_named cd_l_named ct_l_named), sl_l_named⟩) (w_l_named : PySem.W.codeIn K cd_l_named "_law_named" = true) (k_l_named : PySem.W.keepIn K (.ref f_l_named) = true)
    (a_l_asks : PySem.W.nsIn K mainGlobals "_law_asks" = some (some (.ref f_l_asks))) (l_l_asks : K.lookup f_l_asks = some ⟨oc_l_asks, od_l_asks, .func (PySem.W.fnOf "_law_asks" "_law_asks" (defArgs s_l_asks) (defBody s_l_asks) (defScope s_l_asks) .none kV_l_asks dc_l_asks pm_l_asks an_l_asks cd_l_asks ct_l_asks), sl_l_asks⟩) (w_l_asks : PySem.W.codeIn K cd_l_asks "_law_asks" = true) (k_l_asks : PySem.W.keepIn K (.ref f_l_asks) = true)
    (a_l_graced : PySem.W.nsIn K mainGlobals "_law_graced" = some (some (.ref f_l_graced))) (l_l_graced : K.lookup f_l_graced = some ⟨oc_l_graced, od_l_graced, .func (PySem.W.fnOf "_law_graced" "_law_graced" (defArgs s_l_graced) (defBody s_l_graced) (defScope s_l_graced) .none kV_l_graced dc_l_graced pm_l_graced an_l_graced cd_l_graced ct_l_graced), sl_l_graced⟩) (w_l_graced : PySem.W.codeIn K cd_l_graced "_law_graced" = true) (k_l_graced : PySem.W.keepIn K (.ref f_l_graced) = true)
    (a_l_folded : PySem.W.nsIn K mainGlobals "_law_folded" = some (some (.ref f_l_folded))) (l_l_folded : K.lookup f_l_folded = some ⟨oc_l_folded, od_l_folded, .func (PySem.W.fnOf "_law_folded" "_law_folded" (defArgs s_l_folded) (defBody s_l_folded) (defScope s_l_folded) .none kV_l_folded dc_l_folded pm_l_folded an_l_folded cd_l_folded ct_l_folded), sl_l_folded⟩) (w_l_folded : PySem.W.codeIn K cd_l_folded "_law_folded" = true) (k_l_folded : PySem.W.keepIn K (.ref f_l_folded) = true)
    (a_l_depth_of : PySem.W.nsIn K mainGlobals "_law_depth_of" = some (some (.ref f_l_depth_of))) (l_l_depth_of : K.lookup f_l_depth_of = some ⟨oc_l_depth_of, od_l_depth_of, .func (PySem.W.fnOf "_law_depth_of" "_law_depth_of" (defArgs s_l_depth_of) (defBody s_l_depth_of) (defScope s_l_depth_of) .none kV_l_depth_of dc_l_depth_of pm_l_depth_of an_l_depth_of cd_l_depth_of ct_l_depth_of), sl_l_depth_of⟩) (w_l_depth_of : PySem.W.codeIn K cd_l_depth_of "_law_depth_of" = true) (k_l_depth_of : PySem.W.keepIn K (.ref f_l_depth_of) = true)
    (a_l_depths : PySem.W.nsIn K mainGlobals "_law_depths" = some (some (.ref f_l_depths))) (l_l_depths : K.lookup f_l_depths = some ⟨oc_l_depths, od_l_depths, .func (PySem.W.fnOf "_law_depths" "_law_depths" (defArgs s_l_depths) (defBody s_l_depths) (defScope s_l_depths) .none kV_l_depths dc_l_depths pm_l_depths an_l_depths cd_l_depths ct_l_depths), sl_l_depths⟩) (w_l_depths : PySem.W.codeIn K cd_l_depths "_law_depths" = true) (k_l_depths : PySem.W.keepIn K (.ref f_l_depths) = true)
    (a_l_changes : PySem.W.nsIn K mainGlobals "_law_changes" = some (some (.ref f_l_changes))) (l_l_changes : K.lookup f_l_changes = some ⟨oc_l_changes, od_l_changes, .func (PySem.W.fnOf "_law_changes" "_law_changes" (defArgs s_l_changes) (defBody s_l_changes) (defScope s_l_changes) .none kV_l_changes dc_l_changes pm_l_changes an_l_changes cd_l_changes ct_l_changes), sl_l_changes⟩) (w_l_changes : PySem.W.codeIn K cd_l_changes "_law_changes" = true) (k_l_changes : PySem.W.keepIn K (.ref f_l_changes) = true)
    (a_l_due : PySem.W.nsIn K mainGlobals "_law_due" = some (some (.ref f_l_due))) (l_l_due : K.lookup f_l_due = some ⟨oc_l_due, od_l_due, .func (PySem.W.fnOf "_law_due" "_law_due" (defArgs s_l_due) (defBody s_l_due) (defScope s_l_due) .none kV_l_due dc_l_due pm_l_due an_l_due cd_l_due ct_l_due), sl_l_due⟩) (w_l_due : PySem.W.codeIn K cd_l_due "_law_due" = true) (k_l_due : PySem.W.keepIn K (.ref f_l_due) = true)
    (a_l_right : PySem.W.nsIn K mainGlobals "_law_right" = some (some (.ref f_l_right))) (l_l_right : K.lookup f_l_right = some ⟨oc_l_right, od_l_right, .func (PySem.W.fnOf "_law_right" "_law_right" (defArgs s_l_right) (defBody s_l_right) (defScope s_l_right) .none kV_l_right dc_l_right pm_l_right an_l_right cd_l_right ct_l_right), sl_l_right⟩) (w_l_right : PySem.W.codeIn K cd_l_right "_law_right" = true) (k_l_right : PySem.W.keepIn K (.ref f_l_right) = true)
    (a_l_full_right : PySem.W.nsIn K mainGlobals "_law_full_right" = some (some (.ref f_l_full_right))) (l_l_full_right : K.lookup f_l_full_right = some ⟨oc_l_full_right, od_l_full_right, .func (PySem.W.fnOf "_law_full_right" "_law_full_right" (defArgs s_l_full_right) (defBody s_l_full_right) (defScope s_l_full_right) .none kV_l_full_right dc_l_full_right pm_l_full_right an_l_full_right cd_l_full_right ct_l_full_right), sl_l_full_right⟩) (w_l_full_right : PySem.W.codeIn K cd_l_full_right "_law_full_right" = true) (k_l_full_right : PySem.W.keepIn K (.ref f_l_full_right) = true)
    (a_law : PySem.W.nsIn K mainGlobals "law" = some (some (.ref f_law))) (l_law : K.lookup f_law = some ⟨oc_law, od_law, .func (PySem.W.fnOf "law" "law" (defArgs s_law) (defBody s_law) (defScope s_law) .none kV_law dc_law pm_law an_law cd_law ct_law), sl_law⟩) (w_law : PySem.W.codeIn K cd_law "law" = true) (k_law : PySem.W.keepIn K (.ref f_law) = true)
    (z_abs : PySem.W.nsIn K mainGlobals "abs" = some none)
    (z_all : PySem.W.nsIn K mainGlobals "all" = some none)
    (z_bool : PySem.W.nsIn K mainGlobals "bool" = some none)
    (z_dict : PySem.W.nsIn K mainGlobals "dict" = some none)
    (z_enumerate : PySem.W.nsIn K mainGlobals "enumerate" = some none)
    (z_int : PySem.W.nsIn K mainGlobals "int" = some none)
    (z_isinstance : PySem.W.nsIn K mainGlobals "isinstance" = some none)
    (z_len : PySem.W.nsIn K mainGlobals "len" = some none)
    (z_list : PySem.W.nsIn K mainGlobals "list" = some none)
    (z_max : PySem.W.nsIn K mainGlobals "max" = some none)
    (z_min : PySem.W.nsIn K mainGlobals "min" = some none)
    (z_range : PySem.W.nsIn K mainGlobals "range" = some none)
    (z_repr : PySem.W.nsIn K mainGlobals "repr" = some none)
    (z_sorted : PySem.W.nsIn K mainGlobals "sorted" = some none)
    (z_str : PySem.W.nsIn K mainGlobals "str" = some none)
    (z_sum : PySem.W.nsIn K mainGlobals "sum" = some none)
    (z_tuple : PySem.W.nsIn K mainGlobals "tuple" = some none)
    (z_zip : PySem.W.nsIn K mainGlobals "zip" = some none)
    (q_DEEPEST_ROW : PySem.W.nsIn K mainGlobals "DEEPEST_ROW" = some (some (.int 2000000 t_DEEPEST_ROW)))
    (q_LONGEST_THING : PySem.W.nsIn K mainGlobals "LONGEST_THING" = some (some (.int 8 t_LONGEST_THING)))
    (q_MOST_NEAR : PySem.W.nsIn K mainGlobals "MOST_NEAR" = some (some (.int 400 t_MOST_NEAR)))
    (q_MOST_TIMES : PySem.W.nsIn K mainGlobals "MOST_TIMES" = some (some (.int 1000000000000000000000000000000 t_MOST_TIMES)))
    (q_sys : K.lookup sysModules = some osys) :
    ∃ fd : FuncData, (∀ (s : Shared) (v : Value), BindsTo s fd ⟨[v], []⟩ [("_law_script", v)]) ∧ ∀ base : Heap, K.In base → base.Ns mainGlobals mg → FnA Clean l.prog w K mg base CX0 17 fa fd ["_law_script"] (spLaw K) := by
  have e := hfa.symm.trans (PySem.W.mg_of X G a_law)
  cases e
  have T : Txt K mg := ⟨PySem.W.mg_none_of X G z_abs, PySem.W.mg_none_of X G z_all, PySem.W.mg_none_of X G z_bool, PySem.W.mg_none_of X G z_dict, PySem.W.mg_none_of X G z_enumerate, PySem.W.mg_none_of X G z_int, PySem.W.mg_none_of X G z_isinstance, PySem.W.mg_none_of X G z_len, PySem.W.mg_none_of X G z_list, PySem.W.mg_none_of X G z_max, PySem.W.mg_none_of X G z_min, PySem.W.mg_none_of X G z_range, PySem.W.mg_none_of X G z_repr, PySem.W.mg_none_of X G z_sorted, PySem.W.mg_none_of X G z_str, PySem.W.mg_none_of X G z_sum, PySem.W.mg_none_of X G z_tuple, PySem.W.mg_none_of X G z_zip, ⟨_, PySem.W.mg_of X G q_DEEPEST_ROW⟩, ⟨_, PySem.W.mg_of X G q_LONGEST_THING⟩, ⟨_, PySem.W.mg_of X G q_MOST_NEAR⟩, ⟨_, PySem.W.mg_of X G q_MOST_TIMES⟩, ⟨_, q_sys⟩⟩
  have F_is_whole := fun_mk (st := s_is_whole) l_is_whole w_is_whole k_is_whole
  have O_is_whole : Own K mg "is_whole" s_is_whole _ _ ["value"] := ⟨F_is_whole, PySem.W.mg_of X G a_is_whole, F_is_whole.binds (ps := ["value"]) fun _ _ _ _ _ _ us hl => match us, hl with | [_], _ => rfl⟩
  have F_are_small := fun_mk (st := s_are_small) l_are_small w_are_small k_are_small
  have O_are_small : Own K mg "are_small" s_are_small _ _ ["signs"] := ⟨F_are_small, PySem.W.mg_of X G a_are_small, F_are_small.binds (ps := ["signs"]) fun _ _ _ _ _ _ us hl => match us, hl with | [_], _ => rfl⟩
  have F_is_thing := fun_mk (st := s_is_thing) l_is_thing w_is_thing k_is_thing
  have O_is_thing : Own K mg "is_thing" s_is_thing _ _ ["thing"] := ⟨F_is_thing, PySem.W.mg_of X G a_is_thing, F_is_thing.binds (ps := ["thing"]) fun _ _ _ _ _ _ us hl => match us, hl with | [_], _ => rfl⟩
  have F_are_things := fun_mk (st := s_are_things) l_are_things w_are_things k_are_things
  have O_are_things : Own K mg "are_things" s_are_things _ _ ["values"] := ⟨F_are_things, PySem.W.mg_of X G a_are_things, F_are_things.binds (ps := ["values"]) fun _ _ _ _ _ _ us hl => match us, hl with | [_], _ => rfl⟩
  have F_looks_again := fun_mk (st := s_looks_again) l_looks_again w_looks_again k_looks_again
  have O_looks_again : Own K mg "_looks_again" s_looks_again _ _ ["part"] := ⟨F_looks_again, PySem.W.mg_of X G a_looks_again, F_looks_again.binds (ps := ["part"]) fun _ _ _ _ _ _ us hl => match us, hl with | [_], _ => rfl⟩
  have F_is_row := fun_mk (st := s_is_row) l_is_row w_is_row k_is_row
  have O_is_row : Own K mg "is_row" s_is_row _ _ ["thing"] := ⟨F_is_row, PySem.W.mg_of X G a_is_row, F_is_row.binds (ps := ["thing"]) fun _ _ _ _ _ _ us hl => match us, hl with | [_], _ => rfl⟩
  have F_check_row := fun_mk (st := s_check_row) l_check_row w_check_row k_check_row
  have O_check_row : Own K mg "check_row" s_check_row _ _ ["row"] := ⟨F_check_row, PySem.W.mg_of X G a_check_row, F_check_row.binds (ps := ["row"]) fun _ _ _ _ _ _ us hl => match us, hl with | [_], _ => rfl⟩
  have F_count_asks := fun_mk (st := s_count_asks) l_count_asks w_count_asks k_count_asks
  have O_count_asks : Own K mg "count_asks" s_count_asks _ _ ["row"] := ⟨F_count_asks, PySem.W.mg_of X G a_count_asks, F_count_asks.binds (ps := ["row"]) fun _ _ _ _ _ _ us hl => match us, hl with | [_], _ => rfl⟩
  have F_check_near := fun_mk (st := s_check_near) l_check_near w_check_near k_check_near
  have O_check_near : Own K mg "check_near" s_check_near _ _ ["row"] := ⟨F_check_near, PySem.W.mg_of X G a_check_near, F_check_near.binds (ps := ["row"]) fun _ _ _ _ _ _ us hl => match us, hl with | [_], _ => rfl⟩
  have F_laid_out := fun_mk (st := s_laid_out) l_laid_out w_laid_out k_laid_out
  have O_laid_out : Own K mg "laid_out" s_laid_out _ _ ["row"] := ⟨F_laid_out, PySem.W.mg_of X G a_laid_out, F_laid_out.binds (ps := ["row"]) fun _ _ _ _ _ _ us hl => match us, hl with | [_], _ => rfl⟩
  have F_near := fun_mk (st := s_near) l_near w_near k_near
  have O_near : Own K mg "near" s_near _ _ ["row"] := ⟨F_near, PySem.W.mg_of X G a_near, F_near.binds (ps := ["row"]) fun _ _ _ _ _ _ us hl => match us, hl with | [_], _ => rfl⟩
  have F_check_thing := fun_mk (st := s_check_thing) l_check_thing w_check_thing k_check_thing
  have O_check_thing : Own K mg "check_thing" s_check_thing _ _ ["thing"] := ⟨F_check_thing, PySem.W.mg_of X G a_check_thing, F_check_thing.binds (ps := ["thing"]) fun _ _ _ _ _ _ us hl => match us, hl with | [_], _ => rfl⟩
  have F_check_place := fun_mk (st := s_check_place) l_check_place w_check_place k_check_place
  have O_check_place : Own K mg "check_place" s_check_place _ _ ["place", "many"] := ⟨F_check_place, PySem.W.mg_of X G a_check_place, F_check_place.binds (ps := ["place", "many"]) fun _ _ _ _ _ _ us hl => match us, hl with | [_, _], _ => rfl⟩
  have F_lowest_of := fun_mk (st := s_lowest_of) l_lowest_of w_lowest_of k_lowest_of
  have O_lowest_of : Own K mg "_lowest_of" s_lowest_of _ _ ["graces"] := ⟨F_lowest_of, PySem.W.mg_of X G a_lowest_of, F_lowest_of.binds (ps := ["graces"]) fun _ _ _ _ _ _ us hl => match us, hl with | [_], _ => rfl⟩
  have F_with_lowest := fun_mk (st := s_with_lowest) l_with_lowest w_with_lowest k_with_lowest
  have O_with_lowest : Own K mg "_with_lowest" s_with_lowest _ _ ["graces"] := ⟨F_with_lowest, PySem.W.mg_of X G a_with_lowest, F_with_lowest.binds (ps := ["graces"]) fun _ _ _ _ _ _ us hl => match us, hl with | [_], _ => rfl⟩
  have F_checked_graces := fun_mk (st := s_checked_graces) l_checked_graces w_checked_graces k_checked_graces
  have O_checked_graces : Own K mg "checked_graces" s_checked_graces _ _ ["graces"] := ⟨F_checked_graces, PySem.W.mg_of X G a_checked_graces, F_checked_graces.binds (ps := ["graces"]) fun _ _ _ _ _ _ us hl => match us, hl with | [_], _ => rfl⟩
  have F_depth_behind := fun_mk (st := s_depth_behind) l_depth_behind w_depth_behind k_depth_behind
  have O_depth_behind : Own K mg "depth_behind" s_depth_behind _ _ ["since", "grace"] := ⟨F_depth_behind, PySem.W.mg_of X G a_depth_behind, F_depth_behind.binds (ps := ["since", "grace"]) fun _ _ _ _ _ _ us hl => match us, hl with | [_, _], _ => rfl⟩
  have F_reckoned := fun_mk (st := s_reckoned) l_reckoned w_reckoned k_reckoned
  have O_reckoned : Own K mg "reckoned" s_reckoned _ _ ["asks", "graces"] := ⟨F_reckoned, PySem.W.mg_of X G a_reckoned, F_reckoned.binds (ps := ["asks", "graces"]) fun _ _ _ _ _ _ us hl => match us, hl with | [_, _], _ => rfl⟩
  have F_changes := fun_mk (st := s_changes) l_changes w_changes k_changes
  have O_changes : Own K mg "_changes" s_changes _ _ ["told", "other"] := ⟨F_changes, PySem.W.mg_of X G a_changes, F_changes.binds (ps := ["told", "other"]) fun _ _ _ _ _ _ us hl => match us, hl with | [_, _], _ => rfl⟩
  have F_put_in := fun_mk (st := s_put_in) l_put_in w_put_in k_put_in
  have D_put_in : ∃ ds, Vals [V.non] ds ∧ Binds K (PySem.W.fnOf "put_in" "put_in" (defArgs s_put_in) (defBody s_put_in) (defScope s_put_in) .none (.ref D_put_in) dc_put_in pm_put_in an_put_in cd_put_in ct_put_in) ["row", "place", "thing", "graces"] ds := by
    have FD : FunD K "put_in" "put_in" (defArgs s_put_in) (defBody s_put_in) (defScope s_put_in) [] [("graces", V.non)] f_put_in (PySem.W.fnOf "put_in" "put_in" (defArgs s_put_in) (defBody s_put_in) (defScope s_put_in) .none (.ref D_put_in) dc_put_in pm_put_in an_put_in cd_put_in ct_put_in) :=
      ⟨⟨oc_put_in, od_put_in, .none, .ref D_put_in, dc_put_in, pm_put_in, an_put_in, cd_put_in, ct_put_in, sl_put_in, rfl, l_put_in, w_put_in, .inl ⟨rfl, rfl⟩, .inr ⟨D_put_in, rfl, fun q hq => by
        simp only [List.mem_cons, List.not_mem_nil, or_false] at hq
        rcases hq with rfl
        · exact ⟨.none, d_put_in_graces, rfl⟩
        ⟩⟩, k_put_in⟩
    refine FD.binds0 (ps := ["row", "place", "thing", "graces"]) 3 (List.cons_ne_nil _ _) rfl fun D2 doc2 pm2 an2 cdv2 ct2 us ks l1 l2 => ?_
    match us, l1, ks, l2 with
    | [a0, a1, a2], _, [b0], _ => exact ⟨_, _, _, _, _, _, rfl, rfl, rfl⟩
  have O_put_in : Own_put_in K mg _ _ := ⟨F_put_in, PySem.W.mg_of X G a_put_in, (fun s us ws _ l1 l2 => match us, l1, ws, l2 with | [u0, u1, u2], _, [w0], _ => .of_eq rfl), (fun s us ws i l1 l2 => by
      obtain ⟨ds, vd, bd⟩ := D_put_in
      match us, l1, ws, l2 with
      | [u0, u1, u2], _, [], _ =>
        have e := vals_nons (n := 1) vd
        subst e
        exact bd s [u0, u1, u2] i rfl)⟩
  have F_l_jar := fun_mk (st := s_l_jar) l_l_jar w_l_jar k_l_jar
  have O_l_jar : Own K mg "_law_jar" s_l_jar _ _ ["_law_script", "_law_k"] := ⟨F_l_jar, PySem.W.mg_of X G a_l_jar, F_l_jar.binds (ps := ["_law_script", "_law_k"]) fun _ _ _ _ _ _ us hl => match us, hl with | [_, _], _ => rfl⟩
  have F_l_pour := fun_mk (st := s_l_pour) l_l_pour w_l_pour k_l_pour
  have O_l_pour : Own K mg "_law_pour" s_l_pour _ _ ["_law_jar_here", "_law_many"] := ⟨F_l_pour, PySem.W.mg_of X G a_l_pour, F_l_pour.binds (ps := ["_law_jar_here", "_law_many"]) fun _ _ _ _ _ _ us hl => match us, hl with | [_, _], _ => rfl⟩
  have F_l_named := fun_mk (st := s_l_named) l_l_named w_l_named k_l_named
  have O_l_named : Own K mg "_law_named" s_l_named _ _ ["_law_jar_here", "_law_many"] := ⟨F_l_named, PySem.W.mg_of X G a_l_named, F_l_named.binds (ps := ["_law_jar_here", "_law_many"]) fun _ _ _ _ _ _ us hl => match us, hl with | [_, _], _ => rfl⟩
  have F_l_asks := fun_mk (st := s_l_asks) l_l_asks w_l_asks k_l_asks
  have O_l_asks : Own K mg "_law_asks" s_l_asks _ _ ["_law_jar_here", "_law_names", "_law_most"] := ⟨F_l_asks, PySem.W.mg_of X G a_l_asks, F_l_asks.binds (ps := ["_law_jar_here", "_law_names", "_law_most"]) fun _ _ _ _ _ _ us hl => match us, hl with | [_, _, _], _ => rfl⟩
  have F_l_graced := fun_mk (st := s_l_graced) l_l_graced w_l_graced k_l_graced
  have O_l_graced : Own K mg "_law_graced" s_l_graced _ _ ["_law_jar_here", "_law_names"] := ⟨F_l_graced, PySem.W.mg_of X G a_l_graced, F_l_graced.binds (ps := ["_law_jar_here", "_law_names"]) fun _ _ _ _ _ _ us hl => match us, hl with | [_, _], _ => rfl⟩
  have F_l_folded := fun_mk (st := s_l_folded) l_l_folded w_l_folded k_l_folded
  have O_l_folded : Own K mg "_law_folded" s_l_folded _ _ ["_law_jar_here", "_law_asks_here"] := ⟨F_l_folded, PySem.W.mg_of X G a_l_folded, F_l_folded.binds (ps := ["_law_jar_here", "_law_asks_here"]) fun _ _ _ _ _ _ us hl => match us, hl with | [_, _], _ => rfl⟩
  have F_l_depth_of := fun_mk (st := s_l_depth_of) l_l_depth_of w_l_depth_of k_l_depth_of
  have O_l_depth_of : Own K mg "_law_depth_of" s_l_depth_of _ _ ["_law_amid", "_law_grace"] := ⟨F_l_depth_of, PySem.W.mg_of X G a_l_depth_of, F_l_depth_of.binds (ps := ["_law_amid", "_law_grace"]) fun _ _ _ _ _ _ us hl => match us, hl with | [_, _], _ => rfl⟩
  have F_l_depths := fun_mk (st := s_l_depths) l_l_depths w_l_depths k_l_depths
  have O_l_depths : Own K mg "_law_depths" s_l_depths _ _ ["_law_asks_here", "_law_boons"] := ⟨F_l_depths, PySem.W.mg_of X G a_l_depths, F_l_depths.binds (ps := ["_law_asks_here", "_law_boons"]) fun _ _ _ _ _ _ us hl => match us, hl with | [_, _], _ => rfl⟩
  have F_l_changes := fun_mk (st := s_l_changes) l_l_changes w_l_changes k_l_changes
  have O_l_changes : Own K mg "_law_changes" s_l_changes _ _ ["_law_old", "_law_new"] := ⟨F_l_changes, PySem.W.mg_of X G a_l_changes, F_l_changes.binds (ps := ["_law_old", "_law_new"]) fun _ _ _ _ _ _ us hl => match us, hl with | [_, _], _ => rfl⟩
  have F_l_due := fun_mk (st := s_l_due) l_l_due w_l_due k_l_due
  have O_l_due : Own K mg "_law_due" s_l_due _ _ ["_law_asks_here", "_law_boons", "_law_place", "_law_thing"] := ⟨F_l_due, PySem.W.mg_of X G a_l_due, F_l_due.binds (ps := ["_law_asks_here", "_law_boons", "_law_place", "_law_thing"]) fun _ _ _ _ _ _ us hl => match us, hl with | [_, _, _, _], _ => rfl⟩
  have F_l_right := fun_mk (st := s_l_right) l_l_right w_l_right k_l_right
  have O_l_right : Own K mg "_law_right" s_l_right _ _ ["_law_jar_here", "_law_asks_here", "_law_boons", "_law_thing"] := ⟨F_l_right, PySem.W.mg_of X G a_l_right, F_l_right.binds (ps := ["_law_jar_here", "_law_asks_here", "_law_boons", "_law_thing"]) fun _ _ _ _ _ _ us hl => match us, hl with | [_, _, _, _], _ => rfl⟩
  have F_l_full_right := fun_mk (st := s_l_full_right) l_l_full_right w_l_full_right k_l_full_right
  have O_l_full_right : Own K mg "_law_full_right" s_l_full_right _ _ [] := ⟨F_l_full_right, PySem.W.mg_of X G a_l_full_right, F_l_full_right.binds (ps := []) fun _ _ _ _ _ _ us hl => match us, hl with | [], _ => rfl⟩
  have F_law := fun_mk (st := s_law) l_law w_law k_law
  have O_law : Own K mg "law" s_law _ _ ["_law_script"] := ⟨F_law, PySem.W.mg_of X G a_law, F_law.binds (ps := ["_law_script"]) fun _ _ _ _ _ _ us hl => match us, hl with | [_], _ => rfl⟩
  refine ⟨PySem.W.fnOf "law" "law" (defArgs s_law) (defBody s_law) (defScope s_law) .none kV_law dc_law pm_law an_law cd_law ct_law, fun s v => .of_eq rfl, fun base _ _ => ?_⟩
  have G_is_whole := ok_is_whole (P := l.prog) (w := w) (base := base) T O_is_whole
  have G_are_small := ok_are_small (P := l.prog) (w := w) (base := base) T O_are_small
  have G_is_thing := ok_is_thing (P := l.prog) (w := w) (base := base) T O_are_small O_is_thing G_are_small
  have G_is_row := ok_is_row (P := l.prog) (w := w) (base := base) T O_is_whole O_are_small O_are_things O_looks_again O_is_row
  have G_check_row := ok_check_row (P := l.prog) (w := w) (base := base) T O_is_row O_check_row G_is_row
  have G_count_asks := ok_count_asks (P := l.prog) (w := w) (base := base) T O_count_asks
  have G_check_near := ok_check_near (P := l.prog) (w := w) (base := base) T O_count_asks O_check_near G_count_asks
  have G_laid_out := ok_laid_out (P := l.prog) (w := w) (base := base) T O_laid_out
  have G_near := ok_near (P := l.prog) (w := w) (base := base) T O_check_row O_check_near O_laid_out O_near G_check_row G_check_near G_laid_out
  have G_check_thing := ok_check_thing (P := l.prog) (w := w) (base := base) T O_is_thing O_check_thing G_is_thing
  have G_check_place := ok_check_place (P := l.prog) (w := w) (base := base) T O_is_whole O_check_place G_is_whole
  have G_lowest_of := ok_lowest_of (P := l.prog) (w := w) (base := base) T O_are_small O_lowest_of G_are_small
  have G_with_lowest := ok_with_lowest (P := l.prog) (w := w) (base := base) T O_lowest_of O_with_lowest G_lowest_of
  have G_checked_graces := ok_checked_graces (P := l.prog) (w := w) (base := base) T O_with_lowest O_checked_graces G_with_lowest
  have G_depth_behind := ok_depth_behind (P := l.prog) (w := w) (base := base) T O_depth_behind
  have G_reckoned := ok_reckoned (P := l.prog) (w := w) (base := base) T O_depth_behind O_reckoned G_depth_behind
  have G_changes := ok_changes (P := l.prog) (w := w) (base := base) T O_changes
  have G_put_in := ok_put_in (P := l.prog) (w := w) (base := base) T O_near O_check_thing O_check_place O_checked_graces O_reckoned O_changes O_put_in G_near G_check_thing G_check_place G_checked_graces G_reckoned G_changes
  have G_l_jar := ok_l_jar (P := l.prog) (w := w) (base := base) T O_l_jar
  have G_l_pour := ok_l_pour (P := l.prog) (w := w) (base := base) T O_l_pour
  have G_l_named := ok_l_named (P := l.prog) (w := w) (base := base) T O_l_pour O_l_named G_l_pour
  have G_l_asks := ok_l_asks (P := l.prog) (w := w) (base := base) T O_l_pour O_l_asks G_l_pour
  have G_l_graced := ok_l_graced (P := l.prog) (w := w) (base := base) T O_l_pour O_l_graced G_l_pour
  have G_l_folded := ok_l_folded (P := l.prog) (w := w) (base := base) T O_l_pour O_l_folded G_l_pour
  have G_l_depth_of := ok_l_depth_of (P := l.prog) (w := w) (base := base) T O_l_depth_of
  have G_l_depths := ok_l_depths (P := l.prog) (w := w) (base := base) T O_l_depth_of O_l_depths G_l_depth_of
  have G_l_changes := ok_l_changes (P := l.prog) (w := w) (base := base) T O_l_changes
  have G_l_due := ok_l_due (P := l.prog) (w := w) (base := base) T O_l_depths O_l_changes O_l_due G_l_depths G_l_changes
  have G_l_right := ok_l_right (P := l.prog) (w := w) (base := base) T O_put_in O_l_pour O_l_folded O_l_due O_l_right G_put_in G_l_pour G_l_folded G_l_due
  have G_l_full_right := ok_l_full_right (P := l.prog) (w := w) (base := base) T O_put_in O_l_due O_l_full_right G_put_in G_l_due
  have G_law := ok_law (P := l.prog) (w := w) (base := base) T O_put_in O_l_jar O_l_pour O_l_named O_l_asks O_l_graced O_l_right O_l_full_right O_law G_put_in G_l_jar G_l_pour G_l_named G_l_asks G_l_graced G_l_right G_l_full_right
  exact law_ok G_law rfl law_true
theorem walk {l : PySem.W.OpenLaw} {q : Program} {loose : List Str} {XP : (Str → Option Value) → Heap → Prop} {YP : World → Heap → Prop} {d : DefRec} {K : Params → PySem.W.Frag} (hn : l.most = some 63) (hdf : d.params.defaults = [])
    (hY : ∀ (w : World) (h : Heap), YP w h → (K w.params).In h)
    (F : ∀ (w : World) (mg : Str → Option Value) (fa : Addr) (h : Heap), (K w.params).In h → h.Ns mainGlobals mg → mg d.name = some (.ref fa) →
      ∃ fd : FuncData, (∀ (s : Shared) (u : Value), BindsTo s fd ⟨[u], []⟩ [("_law_script", u)]) ∧ ∀ base : Heap, (K w.params).In base → base.Ns mainGlobals mg → FnA Clean l.prog w (K w.params) mg base CX0 17 fa fd ["_law_script"] (spLaw (K w.params))) :
    PySem.W.WalkO q loose XP YP l.row.toRowW d [] (fun f vs => PySem.call f vs) :=
  walk_ofA (n := 63) (k := 17) (x := "_law_script") (sp := fun w => spLaw (K w.params)) hn (by decide) hdf ⟨rfl, by decide, by decide⟩ hY F (fun _ _ a ns hl _ hS => ⟨a, ns, rfl, hS, hl, fun _ => rfl⟩)
end V48
open PySem PySem.W PyProof.Rows in
set_option maxRecDepth 100000 in
set_option maxHeartbeats 0 in
theorem PySem.Challenge.cw_missclock_k48_one_ask_put_in_holds : PySem.Challenge.rw_missclock_k48_one_ask_put_in.Holds := by
  w_on; o_law; x_head; (case hw => w_witness2)
  k_fill
  refine V48.walk (l := PySem.Challenge.rw_missclock_k48_one_ask_put_in) rfl rfl (fun w h Y => PySem.W.kIn_of Y) ?F
  case F =>
    intro w mg fa h KX G hmg
    refine' V48.all_mk KX G hmg ?a_is_whole ?l_is_whole ?w_is_whole ?k_is_whole ?a_are_small ?l_are_small ?w_are_small ?k_are_small ?a_is_thing ?l_is_thing ?w_is_thing ?k_is_thing ?a_are_things ?l_are_things ?w_are_things ?k_are_things ?a_looks_again ?l_looks_again ?w_looks_again ?k_looks_again ?a_is_row ?l_is_row ?w_is_row ?k_is_row ?a_check_row ?l_check_row ?w_check_row ?k_check_row ?a_count_asks ?l_count_asks ?w_count_asks ?k_count_asks ?a_check_near ?l_check_near ?w_check_near ?k_check_near ?a_laid_out ?l_laid_out ?w_laid_out ?k_laid_out ?a_near ?l_near ?w_near ?k_near ?a_check_thing ?l_check_thing ?w_check_thing ?k_check_thing ?a_check_place ?l_check_place ?w_check_place ?k_check_place ?a_lowest_of ?l_lowest_of ?w_lowest_of ?k_lowest_of ?a_with_lowest ?l_with_lowest ?w_with_lowest ?k_with_lowest ?a_checked_graces ?l_checked_graces ?w_checked_graces ?k_checked_graces ?a_depth_behind ?l_depth_behind ?w_depth_behind ?k_depth_behind ?a_reckoned ?l_reckoned ?w_reckoned ?k_reckoned ?a_changes ?l_changes ?w_changes ?k_changes ?a_put_in ?l_put_in ?w_put_in ?k_put_in ?d_put_in_graces ?a_l_jar ?l_l_jar ?w_l_jar ?k_l_jar ?a_l_pour ?l_l_pour ?w_l_pour ?k_l_pour ?a_l_named ?l_l_named ?w_l_named ?k_l_named ?a_l_asks ?l_l_asks ?w_l_asks ?k_l_asks ?a_l_graced ?l_l_graced ?w_l_graced ?k_l_graced ?a_l_folded ?l_l_folded ?w_l_folded ?k_l_folded ?a_l_depth_of ?l_l_depth_of ?w_l_depth_of ?k_l_depth_of ?a_l_depths ?l_l_depths ?w_l_depths ?k_l_depths ?a_l_changes ?l_l_changes ?w_l_changes ?k_l_changes ?a_l_due ?l_l_due ?w_l_due ?k_l_due ?a_l_right ?l_l_right ?w_l_right ?k_l_right ?a_l_full_right ?l_l_full_right ?w_l_full_right ?k_l_full_right ?a_law ?l_law ?w_law ?k_law ?z_abs ?z_all ?z_bool ?z_dict ?z_enumerate ?z_int ?z_isinstance ?z_len ?z_list ?z_max ?z_min ?z_range ?z_repr ?z_sorted ?z_str ?z_sum ?z_tuple ?z_zip ?q_DEEPEST_ROW ?q_LONGEST_THING ?q_MOST_NEAR ?q_MOST_TIMES ?q_sys
    (case a_is_whole => k_is)
    (case l_is_whole => k_is)
    (case w_is_whole => k_is)
    (case k_is_whole => k_is)
    (case a_are_small => k_is)
    (case l_are_small => k_is)
    (case w_are_small => k_is)
    (case k_are_small => k_is)
    (case a_is_thing => k_is)
    (case l_is_thing => k_is)
    (case w_is_thing => k_is)
    (case k_is_thing => k_is)
    (case a_are_things => k_is)
    (case l_are_things => k_is)
    (case w_are_things => k_is)
    (case k_are_things => k_is)
    (case a_looks_again => k_is)
    (case l_looks_again => k_is)
    (case w_looks_again => k_is)
    (case k_looks_again => k_is)
    (case a_is_row => k_is)
    (case l_is_row => k_is)
    (case w_is_row => k_is)
    (case k_is_row => k_is)
    (case a_check_row => k_is)
    (case l_check_row => k_is)
    (case w_check_row => k_is)
    (case k_check_row => k_is)
    (case a_count_asks => k_is)
    (case l_count_asks => k_is)
    (case w_count_asks => k_is)
    (case k_count_asks => k_is)
    (case a_check_near => k_is)
    (case l_check_near => k_is)
    (case w_check_near => k_is)
    (case k_check_near => k_is)
    (case a_laid_out => k_is)
    (case l_laid_out => k_is)
    (case w_laid_out => k_is)
    (case k_laid_out => k_is)
    (case a_near => k_is)
    (case l_near => k_is)
    (case w_near => k_is)
    (case k_near => k_is)
    (case a_check_thing => k_is)
    (case l_check_thing => k_is)
    (case w_check_thing => k_is)
    (case k_check_thing => k_is)
    (case a_check_place => k_is)
    (case l_check_place => k_is)
    (case w_check_place => k_is)
    (case k_check_place => k_is)
    (case a_lowest_of => k_is)
    (case l_lowest_of => k_is)
    (case w_lowest_of => k_is)
    (case k_lowest_of => k_is)
    (case a_with_lowest => k_is)
    (case l_with_lowest => k_is)
    (case w_with_lowest => k_is)
    (case k_with_lowest => k_is)
    (case a_checked_graces => k_is)
    (case l_checked_graces => k_is)
    (case w_checked_graces => k_is)
    (case k_checked_graces => k_is)
    (case a_depth_behind => k_is)
    (case l_depth_behind => k_is)
    (case w_depth_behind => k_is)
    (case k_depth_behind => k_is)
    (case a_reckoned => k_is)
    (case l_reckoned => k_is)
    (case w_reckoned => k_is)
    (case k_reckoned => k_is)
    (case a_changes => k_is)
    (case l_changes => k_is)
    (case w_changes => k_is)
    (case k_changes => k_is)
    (case a_put_in => k_is)
    (case l_put_in => k_is)
    (case w_put_in => k_is)
    (case k_put_in => k_is)
    (case d_put_in_graces => k_is)
    (case a_l_jar => k_is)
    (case l_l_jar => k_is)
    (case w_l_jar => k_is)
    (case k_l_jar => k_is)
    (case a_l_pour => k_is)
    (case l_l_pour => k_is)
    (case w_l_pour => k_is)
    (case k_l_pour => k_is)
    (case a_l_named => k_is)
    (case l_l_named => k_is)
    (case w_l_named => k_is)
    (case k_l_named => k_is)
    (case a_l_asks => k_is)
    (case l_l_asks => k_is)
    (case w_l_asks => k_is)
    (case k_l_asks => k_is)
    (case a_l_graced => k_is)
    (case l_l_graced => k_is)
    (case w_l_graced => k_is)
    (case k_l_graced => k_is)
    (case a_l_folded => k_is)
    (case l_l_folded => k_is)
    (case w_l_folded => k_is)
    (case k_l_folded => k_is)
    (case a_l_depth_of => k_is)
    (case l_l_depth_of => k_is)
    (case w_l_depth_of => k_is)
    (case k_l_depth_of => k_is)
    (case a_l_depths => k_is)
    (case l_l_depths => k_is)
    (case w_l_depths => k_is)
    (case k_l_depths => k_is)
    (case a_l_changes => k_is)
    (case l_l_changes => k_is)
    (case w_l_changes => k_is)
    (case k_l_changes => k_is)
    (case a_l_due => k_is)
    (case l_l_due => k_is)
    (case w_l_due => k_is)
    (case k_l_due => k_is)
    (case a_l_right => k_is)
    (case l_l_right => k_is)
    (case w_l_right => k_is)
    (case k_l_right => k_is)
    (case a_l_full_right => k_is)
    (case l_l_full_right => k_is)
    (case w_l_full_right => k_is)
    (case k_l_full_right => k_is)
    (case a_law => k_is)
    (case l_law => k_is)
    (case w_law => k_is)
    (case k_law => k_is)
    (case z_abs => k_is)
    (case z_all => k_is)
    (case z_bool => k_is)
    (case z_dict => k_is)
    (case z_enumerate => k_is)
    (case z_int => k_is)
    (case z_isinstance => k_is)
    (case z_len => k_is)
    (case z_list => k_is)
    (case z_max => k_is)
    (case z_min => k_is)
    (case z_range => k_is)
    (case z_repr => k_is)
    (case z_sorted => k_is)
    (case z_str => k_is)
    (case z_sum => k_is)
    (case z_tuple => k_is)
    (case z_zip => k_is)
    (case q_DEEPEST_ROW => k_is)
    (case q_LONGEST_THING => k_is)
    (case q_MOST_NEAR => k_is)
    (case q_MOST_TIMES => k_is)
    (case q_sys => k_is)
