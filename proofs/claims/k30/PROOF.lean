import PyProof.Rows.All
import Wide.All
import OpenK.AllK
import Wide.FinOn
import KE.KStateDown
import KE.KIsAll
import KE.KTryMore
import PyProof.ReprRoads
import HandS.ForMost
import HandS.Defaults
import HandS.ExcInit
import HandS.ExcField
import HandS.ExcIs
import HandS.IsInst
import HandS.WideBits
import HandS.Zip
import HandS.TupAny
import HandS.More
import HandS.Dict
import KE.LtSeq
import KE.DataEq
import HandS.DictTup
import HandS.Style
import KE.KRevSl
import HandS.SetTxt0
import HandS.SetBool
import HandS.Set
import KE.GoesMore
import HandS.DictComp
import HandS.Iter
import HandS.Walk
import HandS.Text
import KE.GoesEnumKw
import HandS.SortKw
import KE.KDictKeyed
import HandS.Conv
import HandS.SortRule
import HandS.ForExc
import HandS.ExcOwn
import HandS.ExcValue
import HandS.TryMany
import HandS.HotCalls
import HandS.CallSlots
import HandS.Head0
import HandS.Head1
import HandS.Head2
import HandS.HeadEnd
import HandS.HeadHook1
import HandS.HeadHook2
import PySem.Challenge.RW_bykindalone_k30_relations_of_anything
set_option Elab.async false
set_option linter.all false
set_option maxRecDepth 100000
set_option maxHeartbeats 4100000
namespace KB
open PySem L2 PySem.Spec PyProof.Rows
def RunG (P : Program) (w : World) (K : PySem.W.Frag) (mg : Str → Option Value) (base : Heap) (k : Nat) (f : Addr) (fd : FuncData) (ps : List Str) (sp : Sp) : Prop :=
  ∀ (A : Around) (outer : List Env) (s : Shared) (H : Hp) (args : Args) (us : List Value) (vs : List V) (Q : VK),
    A.guards = some [] → Room k A → Env0 P w K mg base A outer s H → BindsTo s fd args (ps.zip us) → Vals vs us → sp vs H Q E0 →
      codeAny (model P w) A (.call (.ref f) args) (fun r z => CR CX0 outer P w H s Q E0 r z) s
structure FnG (P : Program) (w : World) (K : PySem.W.Frag) (mg : Str → Option Value) (base : Heap) (k : Nat) (f : Addr) (fd : FuncData) (ps : List Str) (sp : Sp) : Prop where
  many : ∀ vs H Q, sp vs H Q E0 → vs.length = ps.length
  go : RunG P w K mg base k f fd ps sp
theorem FnG.of {P : Program} {w : World} {K : PySem.W.Frag} {mg : Str → Option Value} {base : Heap} {k : Nat} {f : Addr} {fd : FuncData} {ps : List Str} {sp : Sp}
    (F : FnOk P w K mg base CX0 k f fd ps sp) : FnG P w K mg base k f fd ps sp :=
  ⟨fun vs H Q h => F.len vs H Q _ h, fun A o s H a us vs Q _ hr e b v h => F.run A o s H a us vs Q _ hr e b v h⟩
section
variable {X : Cx} {k : Nat} {f : Addr} {fd : FuncData} {ps : List Str} {sp : Sp} {dvs : List V} {ds : List Value}
theorem runG {pins : List (Addr × Obj)} {σ : L2.St} {H : Hp} {s : Shared} {Q : VK} {us : List Value} {vs : List V}
    (F : FnG X.prog X.w X.K X.mg X.base k f fd ps sp) (hg : X.A.guards = some []) (hr : Room k X.A) (hb : Binds X.K fd ps ds) (hd : Vals dvs ds)
    (I : Inv X pins σ H s) (r : Vals vs us) (h : sp (vs ++ dvs) H Q E0) : wpAny (model X.prog X.w) X.A (call (.ref f) us) (EP X pins σ Q) X.xe s := by
  have both := r.append hd
  have hl : (us ++ ds).length = ps.length := both.length.symm.trans (F.many _ _ _ h)
  have body := F.go X.A X.stack s H ⟨us, []⟩ _ _ Q hg hr I.env0 (hb s us I.kIn hl) both h
  refine wpAny_call (codeAny_mono body fun r z hq => ?_)
  match r, hq with
  | .ok (.ret u), hq => exact I.after hq
theorem pe_callG {x : Str} {p pos : Pos} {e : Expr} {es : List Expr} {t : TA} (F : FnG X.prog X.w X.K X.mg X.base k f fd ps sp) (hgd : X.A.guards = some []) (hr : Room k X.A)
    (hg : Gl X x) (hm : X.mg x = some (.ref f)) (hk : PySem.W.keepIn X.K (.ref f) = true) (hb : Binds X.K fd ps ds) (hd : Vals dvs ds) (ha : PA X (e :: es) t) (hdb : (x == ("__debug__" : Str)) = false := by decide) (he : starEach (e :: es) X.env = (false, eval e X.env) :: starEach es X.env := by rfl)
    (hpl : (backTo pos (starEach es X.env)).any (·.1) = false := by rfl) : PE X (.Call (.Name x p) (e :: es) [] pos) (tCall sp dvs E0 t) :=
  ⟨fun pins s σ H Q I h => wpAny_Call_Name_kw (ld_glob I hg hm (PySem.W.callWith_K (h₀ := X.base) I.ok.mod.kin hk
    (thn (ha.run pos pins s σ H _ I h) fun us s1 ⟨vs, H1, I1, r, q⟩ => ⟨I1.kIn, runG F hgd hr hb hd I1 r q⟩) he hpl) hdb)⟩
end
theorem okG {P : Program} {w : World} {K : PySem.W.Frag} {mg : Str → Option Value} {base : Heap} {x qual : Str} {params : Arguments} {body : List Stmt} {scope : Scope} {dvs : List V} {kws : List (Str × V)}
    {f : Addr} {fd : FuncData} {N ps : List Str} {k : Nat} {sp : Sp} (F : FunD K x qual params body scope dvs kws f fd) (S : FnScope N ps scope)
    (many : ∀ vs H Q, sp vs H Q E0 → vs.length = ps.length)
    (hbody : ∀ (cdv : Value) (A : Around) (outer : List Env) (s : Shared) (H : Hp) (vs : List V) (Q : VK),
      (A.deeper (envOfC qual scope s.heap.objs.size f cdv)).guards = some [] → Room k (A.deeper (envOfC qual scope s.heap.objs.size f cdv)) → sp vs H Q E0 →
      ∃ t, PSs (cxOf CX0 P w K mg base N qual scope f cdv A outer s H E0).nox body t ∧ t { nx := fun _ H' => Q .non H', rt := Q } (start N vs) H) :
    FnG P w K mg base (k + 1) f fd ps sp := by
  (obtain ⟨oc, od, dV, kV, doc, pm, an, cdv, ct, osl, rfl, lk, hcd, _, _⟩ := F.ex)
  refine ⟨many, ?_⟩
  intro A outer s H args us vs Q hgd hr e0 hb r hsp
  have old : ∀ b o, base.get? b = some o → s.heap.get? b = some o := fun b o e => (e0.bs b o e).1
  have KX : K.In s.heap := e0.mod.kin.keeps old
  have slots : ∀ y ∈ ps.zip us, scope.names.lookup y.1 = some .local ∨
      (scope.names.lookup y.1 = some .cell ∧ ((cellsFrom (s.heap.objs.size + 1) scope.names []).lookup y.1).isSome = true) := by
    intro y hy
    cases S.par y.1 (List.of_mem_zip (show (y.1, y.2) ∈ ps.zip us from hy)).1 with
    | inl q => exact .inl q
    | inr q => exact .inr ⟨q, PySem.W.cellsFrom_some _ _ _ (.inl q)⟩
  (refine codeAny_call_function hr.depth (KX _ _ lk) rfl S.co S.gen rfl (PySem.W.codeRec_of KX hcd) (hb _ _ _ _ ?_))
  refine wpAny_newFunctionEnv_cells S.kind slots fun env he s1 ic => ?_
  subst he
  refine ⟨(e0.mod.nolimit.keeps old).keeps ic.toInCall.keep, codeAny_func ?_⟩
  obtain ⟨t, ht, hq⟩ := hbody cdv A outer s H vs Q hgd (hr.deeper _) hsp
  have I : Inv (cxOf CX0 P w K mg base N qual scope f cdv A outer s H E0) [] (start N vs) H s1 := inv_start S hr.hd e0 (many _ _ _ hsp) r ic
  refine wpAny_mono (ht.nox.run [] s1 (start N vs) H _ I hq) (fun fl s' hs => ?_) fun e s' hs => hs
  match fl, hs with
  | .ret u, ⟨v, σ', H', J, rv, q⟩ => exact ⟨v, H', J.os, J.bare, J.base, J.hok, rv, q⟩
  | .next, ⟨σ', H', J, q⟩ => exact ⟨V.non, H', J.os, J.bare, J.base, J.hok, rfl, q⟩
  | .brk, ⟨_, _, _, q⟩ => exact q.elim
  | .cont, ⟨_, _, _, q⟩ => exact q.elim
theorem law_callG {P : Program} {w : World} {K : PySem.W.Frag} {mg mb : Str → Option Value} {k : Nat} {fa a : Addr} {fd : FuncData} {x : Str} {sp : Sp} {z : Shared} {vs : List Value} {ns : List Int}
    (KX : K.In z.heap) (hns : z.heap.Ns mainGlobals mg) (hb : z.heap.Ns builtinsNs mb) (hbb : ∀ x : Str, x ≠ "__name__" → mb x = bootBuiltins x) (hlim : z.heap.NoLimit) (hg : z.gens = #[])
    (ha : z.heap.get? a = some { cls := .type "list", data := .seq vs.toArray }) (hi : IntsAre vs ns) (hl : ns.length ≤ sizeLine) (hr : Room k callerA)
    (F : ∀ base : Heap, K.In base → base.Ns mainGlobals mg → FnG P w K mg base k fa fd [x] sp) (hbind : ∀ (s : Shared) (u : Value), BindsTo s fd ⟨[u], []⟩ [(x, u)])
    (hsp : ∀ H : Hp, Only H → SqL K H a (ns.map V.int) → sp [.ref a] H (fun v _ => v = .bl true) E0) :
    codeAny (model P w) callerA (.call (.ref fa) ⟨[.ref a], []⟩) (fun r s' => r = .ok (.ret (.bool true)) ∧ OldK z.heap s'.heap ∧ s'.os = z.os ∧ AllBare s'.gens) z := by
  have rv := vals_ints hi
  have many := hi.length
  have core : ∀ H : Hp, Only H → SqL K H a (ns.map V.int) → HOk P w H z.heap → (∀ b, H b ≠ none → b = a) → (H a ≠ none → K.lookup a = none) →
      codeAny (model P w) callerA (.call (.ref fa) ⟨[.ref a], []⟩) (fun r s' => r = .ok (.ret (.bool true)) ∧ OldK z.heap s'.heap ∧ s'.os = z.os ∧ AllBare s'.gens) z := by
    intro H hO hS hok hA hK
    have atA : ∀ {b : Addr}, H b ≠ none → z.heap.get? b = some { cls := .type "list", data := .seq vs.toArray } := fun {b} q => by rw [hA b q]; exact ha
    have dictFree : ∀ {b : Addr} {o : Obj} {es : Array DictEntry} {ep : Nat}, z.heap.get? b = some o → o.data = .dict es ep → H b = none := by
      intro b o es ep e d
      by_cases q : H b = none
      · exact q
      · rw [atA q] at e
        cases e
        cases (show Data.seq vs.toArray _ = Data.dict es ep from d)
    have nsK : ∀ {b : Addr} {m : Str → Option Value}, z.heap.Ns b m → (hidT z.heap H).Ns b m :=
      fun ⟨o, es, ep, e, d, r⟩ => ⟨o, es, ep, hidT_get e (dictFree e d), d, r⟩
    have inB : K.In (hidT z.heap H) := by
      intro b o e
      refine hidT_get (KX b o e) ?_
      by_cases q : H b = none
      · exact q
      · have eb := hA b q
        subst eb
        rw [hK q] at e
        cases e
    obtain ⟨mc, lim1, lim2⟩ := hlim
    have M : Mod K mg (hidT z.heap H) := ⟨inB, nsK hns, ⟨mb, nsK hb, hbb⟩, ⟨mc, nsK lim1, lim2⟩⟩
    have e0 : Env0 P w K mg (hidT z.heap H) callerA [] z H :=
      { frames := rfl, mod := M, bs := fun b o e => of_hidT e, bsz := Nat.le_of_eq (hidT_size _ _), funs := trivial, frf := fun b q => (by cases (show b ∈ ([] : List Addr) from q)), hok := hok, bare := .of_eq hg }
    have run := (F _ inB (nsK hns)).go callerA [] z H ⟨[.ref a], []⟩ [.ref a] [.ref a] (fun v _ => v = .bl true) rfl hr e0 (hbind z (.ref a)) (.cons rfl .nil) (hsp H hO hS)
    refine codeAny_mono run fun r s' h => ?_
    match r, h with
    | .ok (.ret u), ⟨v, H', os, bare, un, hok', r', q⟩ =>
      subst q
      (obtain rfl : u = Value.bool true := r')
      (refine ⟨rfl, OldK.of_keep fun b o e => ?_, os, bare⟩)
      by_cases q : H b = none
      · exact un.keep b o e q (fun y => by cases (show b ∈ ([] : List Addr) from y)) (fun y => by cases y)
      · rcases hO b with y | ⟨ob, xs, y⟩
        · exact absurd y q
        · have g1 := (hok b _ y).1
          have g2 := (hok' b _ (un.frzs b ob _ y)).1
          rw [e] at g1
          cases g1
          exact g2
  by_cases hk : K.lookup a = none
  · have at1 : ∀ b, (if b = a then some (HO.frz { cls := .type "list", data := .seq vs.toArray } (.lst (ns.map V.int))) else none) ≠ none → b = a := fun b q => by
      by_cases hb : b = a
      · exact hb
      · exact absurd (if_neg hb) q
    refine core (fun b => if b = a then some (.frz { cls := .type "list", data := .seq vs.toArray } (.lst (ns.map V.int))) else none) (fun b => ?_) (.inl (.inr ⟨{ cls := .type "list", data := .seq vs.toArray }, if_pos rfl⟩)) (fun b u q => ?_) at1 fun _ => hk
    · by_cases hb : b = a
      · (exact .inr ⟨_, _, if_pos hb⟩)
      · exact .inl (if_neg hb)
    · have hb := at1 b (fun y => nomatch q.symm.trans y)
      have q2 := (if_pos hb).symm.trans q
      cases q2
      subst hb
      (exact ⟨ha, by rw [List.length_map]; exact hl, vs, _, rv, ha⟩)
  · cases hk2 : K.lookup a with
    | none => exact absurd hk2 hk
    | some o =>
      have e := KX a o hk2
      rw [ha] at e
      cases e
      refine core (fun _ => none) (fun _ => .inl rfl) (.inr ⟨_, vs.toArray, _, hk2, rfl, rfl, rfl, by rw [List.size_toArray, many]; exact hl, by simpa using rv⟩) (fun b u q => ?_) (fun b q => absurd rfl q) fun q => absurd rfl q
      cases (show (none : Option HO) = some u from q)
theorem walk_ofG {l : PySem.W.OpenLaw} {n k : Nat} {q : Program} {loose : List Str} {XP : (Str → Option Value) → Heap → Prop} {YP : World → Heap → Prop} {d : DefRec} {x : Str} (hn : l.most = some n) (hn2 : n ≤ sizeLine) (hdf : d.params.defaults = []) (hr : Room k callerA) (F : ∀ (w : World) (mg : Str → Option Value) (fa : Addr) (h : Heap), YP w h → h.Ns mainGlobals mg → mg d.name = some (.ref fa) → ∃ (K : PySem.W.Frag) (fd : FuncData) (sp : Sp), K.In h ∧ (∀ (s : Shared) (u : Value), BindsTo s fd ⟨[u], []⟩ [(x, u)]) ∧
        (∀ (H : Hp) (a : Addr) (ns : List Int), ns.length ≤ n → Only H → SqL K H a (ns.map V.int) → sp [.ref a] H (fun v _ => v = .bl true) E0) ∧
        ∀ base : Heap, K.In base → base.Ns mainGlobals mg → FnG l.prog w K mg base k fa fd [x] sp) : PySem.W.WalkO q loose XP YP l.row.toRowW d [] (fun f vs => PySem.call f vs) := by
  refine Att.attach_call hn hdf fun w s0 s1 mg mb fa o pm cd doc a vs ns G Y ho hd hcd hmg hobj hints hlen hg => ?_
  (obtain ⟨K, fd, sp, KX, hb, hsp, hF⟩ := F w mg fa _ Y G.T.g hmg)
  exact law_callG KX G.T.g G.T.b G.T.builtins G.T.nolimit hg hobj hints (Nat.le_trans hlen hn2) hr hF hb (fun H hO hS => hsp H a ns hlen hO hS)
end KB
namespace KB
open PySem L2 PySem.Spec PyProof.Rows
mutual
inductive Dt (F : Addr → Prop) (H : Hp) : V → PyData → Prop
  | non : Dt F H .non .none
  | bl (b : Bool) : Dt F H (.bl b) (.bool b)
  | int (i : Int) : Dt F H (.int i) (.int i)
  | str (x : Str) : Dt F H (.str x) (.str x)
  | lst {a : Addr} {xs : List V} {ds : List PyData} (f : F a) (h : H a = some (.lst xs)) (r : DtA F H xs ds) : Dt F H (.ref a) (.list ds)
  | tup {a : Addr} {xs : List V} {ds : List PyData} (f : F a) (h : H a = some (.tup xs)) (r : DtA F H xs ds) : Dt F H (.ref a) (.tuple ds)
  | emp {a : Addr} (f : F a) (h : H a = some (.dK [])) : Dt F H (.ref a) (.dict [])
inductive DtA (F : Addr → Prop) (H : Hp) : List V → List PyData → Prop
  | nil : DtA F H [] []
  | cons {v : V} {vs : List V} {d : PyData} {ds : List PyData} (h : Dt F H v d) (r : DtA F H vs ds) : DtA F H (v :: vs) (d :: ds)
end
section
variable {F G : Addr → Prop} {H H' : Hp}
mutual
theorem Dt.move (k : ∀ a o, F a → H a = some o → G a ∧ H' a = some o) : ∀ {v : V} {d : PyData}, Dt F H v d → Dt G H' v d
  | _, _, .non => .non
  | _, _, .bl b => .bl b
  | _, _, .int i => .int i
  | _, _, .str x => .str x
  | _, _, .lst f h r => .lst (k _ _ f h).1 (k _ _ f h).2 (DtA.move k r)
  | _, _, .tup f h r => .tup (k _ _ f h).1 (k _ _ f h).2 (DtA.move k r)
  | _, _, .emp f h => .emp (k _ _ f h).1 (k _ _ f h).2
theorem DtA.move (k : ∀ a o, F a → H a = some o → G a ∧ H' a = some o) : ∀ {vs : List V} {ds : List PyData}, DtA F H vs ds → DtA G H' vs ds
  | _, _, .nil => .nil
  | _, _, .cons h r => .cons (Dt.move k h) (DtA.move k r)
end
theorem DtA.length : ∀ {vs : List V} {ds : List PyData}, DtA F H vs ds → vs.length = ds.length
  | _, _, .nil => rfl
  | _, _, .cons _ r => congrArg (· + 1) r.length
theorem DtA.get : ∀ {vs : List V} {ds : List PyData} {i : Nat} {v : V}, DtA F H vs ds → vs[i]? = some v → ∃ d, ds[i]? = some d ∧ Dt F H v d
  | _, _, _, _, DtA.nil, e => by simp at e
  | _, _, 0, _, .cons h _, e => by
    simp at e
    subst e
    exact ⟨_, rfl, h⟩
  | _, _, i + 1, v, .cons _ r, e => by
    obtain ⟨d, e1, h⟩ := DtA.get (i := i) r (by simpa using e)
    exact ⟨d, by simpa using e1, h⟩
theorem DtA.append : ∀ {vs ws : List V} {ds es : List PyData}, DtA F H vs ds → DtA F H ws es → DtA F H (vs ++ ws) (ds ++ es)
  | _, _, _, _, .nil, s => s
  | _, _, _, _, .cons h r, s => .cons h (DtA.append r s)
theorem DtA.set {v : V} {d : PyData} (h : Dt F H v d) : ∀ {vs : List V} {ds : List PyData} (i : Nat), DtA F H vs ds → DtA F H (vs.set i v) (ds.set i d)
  | _, _, _, .nil => .nil
  | _, _, 0, .cons _ r => .cons h r
  | _, _, i + 1, .cons q r => .cons q (DtA.set h i r)
end
def SysIn (K : PySem.W.Frag) : Prop := ∃ o, K.lookup sysModules = some o
section
variable {X : Cx} {pins : List (Addr × Obj)} {σ : L2.St} {H : Hp} {s : Shared} {F : Addr → Prop}
theorem sys_none (I : Inv X pins σ H s) (hS : SysIn X.K) : H sysModules = none := by
  obtain ⟨o, e⟩ := hS
  exact (I.bs _ _ (I.ok.mod.kin _ _ e)).2
theorem sys_ne (I : Inv X pins σ H s) (hS : SysIn X.K) {a : Addr} {o : HO} (h : H a = some o) : sysModules ≠ a := fun e => by
  rw [← e, sys_none I hS] at h
  cases h
mutual
theorem Dt.reads (I : Inv X pins σ H s) (hS : SysIn X.K) : ∀ {v : V} {d : PyData} {u : Value}, Dt F H v d → RelV v u → ∃ as, Reads s.heap u d as ∧ sysModules ∉ as
  | _, _, _, .non, r => by
    cases r
    exact ⟨[], .none, by simp⟩
  | _, _, _, .bl b, r => by
    cases r
    exact ⟨[], .bool b, by simp⟩
  | _, _, _, .int i, r => by
    obtain ⟨t, rfl⟩ := r
    exact ⟨[], .int i t, by simp⟩
  | _, _, _, .str x, r => by
    obtain ⟨t, rfl⟩ := r
    exact ⟨[], .str x t, by simp⟩
  | _, _, _, .lst (a := a) (xs := xs) f h q, r => by
    cases r
    obtain ⟨_, its, n, rv, ho⟩ := (show ObjOk X.prog X.w H s.heap a (.lst xs) from I.hok a _ h)
    obtain ⟨as, hr, hn⟩ := DtA.reads I hS q rv
    exact ⟨a :: as, Reads.list ho rfl rfl (by simpa using hr), fun z => (List.mem_cons.mp z).elim (sys_ne I hS h) hn⟩
  | _, _, _, .tup (a := a) (xs := xs) f h q, r => by
    cases r
    obtain ⟨_, its, rv, o, ho, hc, n, hd⟩ := (show ObjOk X.prog X.w H s.heap a (.tup xs) from I.hok a _ h)
    obtain ⟨as, hr, hn⟩ := DtA.reads I hS q rv
    exact ⟨as, Reads.tuple ho hc hd (by simpa using hr), hn⟩
  | _, _, _, .emp (a := a) f h, r => by
    cases r
    obtain ⟨_, _, vs, kv, o, es, ep, ho, hx, hd, _, hm, _⟩ := (show ObjOk X.prog X.w H s.heap a (.dK []) from I.hok a _ h)
    cases kv
    have he : es.toList = [] := by
      have hl := PySem.Pairs.length hm
      exact List.length_eq_zero_iff.mp (by simpa using hl)
    refine ⟨[a], Reads.dict (as := []) (bs := []) ho hx.1 hd (by rw [he]; exact .nil) (by rw [he]; exact .nil), fun z => ?_⟩
    exact sys_ne I hS h (List.mem_singleton.mp z)
theorem DtA.reads (I : Inv X pins σ H s) (hS : SysIn X.K) : ∀ {vs : List V} {ds : List PyData} {us : List Value}, DtA F H vs ds → Vals vs us → ∃ as, ReadsAll s.heap us ds as ∧ sysModules ∉ as
  | _, _, _, .nil, r => by
    cases r
    exact ⟨[], .nil, by simp⟩
  | _, _, _, .cons h q, r => by
    cases r with
    | cons r1 r2 =>
      obtain ⟨as, h1, n1⟩ := Dt.reads I hS h r1
      obtain ⟨bs, h2, n2⟩ := DtA.reads I hS q r2
      exact ⟨as ++ bs, .cons h1 h2, fun z => (List.mem_append.mp z).elim n1 n2⟩
end
def rRepr : List V → Hp → VK → Prop := fun xs H Q => ∃ (F : Addr → Prop) (v : V) (d : PyData), xs = [v] ∧ Dt F H v d ∧ d.showable = true ∧ d.depth ≤ 60 ∧ d.shown.length ≤ sizeLine ∧ Q (.str d.shown) H
theorem call_repr {k : Nat} (hS : SysIn X.K) (hg : X.A.guards = some []) (hr : Room k X.A) : CallR X (.builtin "repr") rRepr := by
  (intro pins s σ H xs us Q I r h)
  obtain ⟨F, v, d, rfl, hd, sh, dp, ln, q⟩ := h
  (obtain ⟨u, rfl, ru⟩ := vals1 r)
  obtain ⟨as, rd, hn⟩ := hd.reads I hS ru
  have room := hr.units
  cases rd with
  | none =>
    simp only [PyData.shown] at q
    exact PySem.P.repr_of_none ⟨.str _, H, I.tok _, ⟨_, rfl⟩, q⟩
  | bool b =>
    simp only [PyData.shown] at q
    exact PySem.P.repr_of_bool ⟨.str _, H, I.tok _, ⟨_, rfl⟩, q⟩
  | int i t =>
    simp only [PyData.shown] at q
    exact PySem.P.repr_of_int (by simpa [PyData.showable] using sh) ⟨.str _, H, I.tok _, ⟨_, rfl⟩, q⟩
  | str x t =>
    simp only [PyData.shown] at q ln
    exact PySem.P.repr_of_str ⟨.str _, H, I.tok _, ⟨_, rfl⟩, q⟩ ln
  | list h1 h2 h3 h4 => exact repr_of_reads' (.list h1 h2 h3 h4) sh (fun _ => hn) hg (by omega) (fun _ _ e => e) (fun h' u tk k => ⟨.str _, H, I.kept k, ⟨_, rfl⟩, q⟩) ln
  | tuple h1 h2 h3 h4 => exact repr_of_reads' (.tuple h1 h2 h3 h4) sh (fun _ => hn) hg (by omega) (fun _ _ e => e) (fun h' u tk k => ⟨.str _, H, I.kept k, ⟨_, rfl⟩, q⟩) ln
  | dict h1 h2 h3 h4 h5 => exact repr_of_reads' (.dict h1 h2 h3 h4 h5) sh (fun _ => hn) hg (by omega) (fun _ _ e => e) (fun h' u tk k => ⟨.str _, H, I.kept k, ⟨_, rfl⟩, q⟩) ln
end
end KB
namespace KB
open PySem L2 PySem.Spec PyProof.Rows
def Wl (H : Hp) (w : Addr) (c : Int) : Prop := ∃ n m : Int, H w = some (.lst [.int n, .int m, .int c]) ∧ 0 ≤ n ∧ 0 ≤ m ∧ m < 2147483579 ∧ 0 ≤ c
def Kw (w : Addr) (H H' : Hp) : Prop := ∀ b o, b ≠ w → H b = some o → H' b = some o
theorem Kw.refl (w : Addr) (H : Hp) : Kw w H H := fun _ _ _ h => h
theorem Kw.trans {w : Addr} {H H1 H2 : Hp} (a : Kw w H H1) (b : Kw w H1 H2) : Kw w H H2 := fun c o n h => b c o n (a c o n h)
theorem Kw.same {w : Addr} {H H' : Hp} (a : Same H H') : Kw w H H' := fun b o _ h => a b o h
theorem Kw.put {w : Addr} {H : Hp} {o : HO} : Kw w H (upd H w o) := fun b u n h => by rw [upd_ne n]; exact h
theorem Kw.new {w p : Addr} {H : Hp} {o : HO} (h : H p = none) : Kw w H (upd H p o) := fun b u _ q => by rw [upd_ne (ne_of_none q h)]; exact q
theorem Same.new {p : Addr} {H : Hp} {o : HO} (h : H p = none) : Same H (upd H p o) := fun b u q => by rw [upd_ne (ne_of_none q h)]; exact q
theorem Wl.ne {H : Hp} {w p : Addr} {c : Int} (h : Wl H w c) (q : H p = none) : w ≠ p := by
  obtain ⟨n, m, e, _⟩ := h
  exact ne_of_none e q
theorem Wl.same {H H' : Hp} {w : Addr} {c : Int} (h : Wl H w c) (k : Same H H') : Wl H' w c := by
  obtain ⟨n, m, e, r⟩ := h
  exact ⟨n, m, k _ _ e, r⟩
theorem Wl.some {H : Hp} {w : Addr} {c : Int} (h : Wl H w c) : H w ≠ none := by
  obtain ⟨n, m, e, _⟩ := h
  rw [e]
  exact fun q => nomatch q
def spDraw : Sp := fun vs H Q _ => ∃ (w : Addr) (k c : Int), vs = [.ref w, .int k] ∧ Wl H w c ∧ c < 2 ^ 60 ∧ 0 < k ∧ k < 2 ^ 29 ∧
  ∀ (r c' : Int) (H' : Hp), 0 ≤ r → r < k → Kw w H H' → Wl H' w c' → c' ≤ c + 1 → Q (.int r) H'
theorem at0 {a b c : V} : atI [a, b, c] (0 : Int) = some a := atI_nat (j := 0) rfl
theorem at1 {a b c : V} : atI [a, b, c] (1 : Int) = some b := atI_nat (j := 1) rfl
theorem at2 {a b c : V} : atI [a, b, c] (2 : Int) = some c := atI_nat (j := 2) rfl
end KB
namespace KB
open PySem L2 PySem.Spec PyProof.Rows
abbrev New (H : Hp) : Addr → Prop := fun a => H a = none
def DE (te : TE) (d : PyData) : Prop := ∀ (σ : L2.St) (H : Hp) (Q : VK), (∀ v H', Same H H' → Dt (New H) H' v d → Q v H') → te σ H Q
def DA (ta : TA) (ds : List PyData) : Prop := ∀ (σ : L2.St) (H : Hp) (Q : List V → Hp → Prop), (∀ vs H', Same H H' → DtA (New H) H' vs ds → Q vs H') → ta σ H Q
theorem Dt.grow {H H1 H2 : Hp} {v : V} {d : PyData} (h : Dt (New H) H1 v d) (k : Same H1 H2) : Dt (New H) H2 v d := h.move fun a o f e => ⟨f, k a o e⟩
theorem DtA.grow {H H1 H2 : Hp} {v : List V} {d : List PyData} (h : DtA (New H) H1 v d) (k : Same H1 H2) : DtA (New H) H2 v d := h.move fun a o f e => ⟨f, k a o e⟩
theorem Dt.back {H H1 H2 : Hp} {v : V} {d : PyData} (h : Dt (New H1) H2 v d) (k : Same H H1) : Dt (New H) H2 v d := h.move fun a o f e => ⟨k.free f, e⟩
theorem DtA.back {H H1 H2 : Hp} {v : List V} {d : List PyData} (h : DtA (New H1) H2 v d) (k : Same H H1) : DtA (New H) H2 v d := h.move fun a o f e => ⟨k.free f, e⟩
theorem de_non : DE (tC .non) .none := fun σ H Q q => q _ H (Same.refl H) .non
theorem de_bl (b : Bool) : DE (tC (.bl b)) (.bool b) := fun σ H Q q => q _ H (Same.refl H) (.bl b)
theorem de_int (i : Int) : DE (tC (.int i)) (.int i) := fun σ H Q q => q _ H (Same.refl H) (.int i)
theorem de_str (x : Str) : DE (tC (.str x)) (.str x) := fun σ H Q q => q _ H (Same.refl H) (.str x)
theorem de_neg (i : Int) : DE (tUn (rU fun i => .int (-i)) (tC (.int i))) (.int (-i)) := fun σ H Q q => ⟨_, rfl, q _ H (Same.refl H) (.int _)⟩
theorem de_pow {i j : Int} (h : CPow i j) : DE (tOp (rI CPow fun i j => .int (i ^ j.toNat)) (tC (.int i)) (tC (.int j))) (.int (i ^ j.toNat)) := fun σ H Q q => ⟨_, _, rfl, rfl, h, q _ H (Same.refl H) (.int _)⟩
theorem de_emp : DE tDNewK (.dict []) := fun σ H Q q p hp => q _ _ (Same.new hp) (.emp hp upd_same)
theorem da_nil : DA tNil [] := fun σ H Q q => q _ H (Same.refl H) .nil
theorem da_cons {te : TE} {t : TA} {d : PyData} {ds : List PyData} (h : DE te d) (r : DA t ds) : DA (tCons te t) (d :: ds) := fun σ H Q q =>
  h σ H _ fun v H1 s1 d1 => r σ H1 _ fun vs H2 s2 d2 => q _ H2 (s1.trans s2) (.cons (d1.grow s2) (d2.back s1))
theorem de_tup {t : TA} {ds : List PyData} (h : DA t ds) (z : ds.length ≤ 1000) : DE (tTup t) (.tuple ds) := fun σ H Q q =>
  h σ H _ fun vs H1 s1 d1 => ⟨Nat.le_of_lt (small1000 (by rw [d1.length]; exact z)), fun p hp => q _ _ (s1.trans (Same.new hp)) (.tup (s1.free hp) upd_same (d1.grow (Same.new hp)))⟩
theorem de_lst {t : TA} {ds : List PyData} (h : DA t ds) (z : ds.length ≤ 1000) : DE (tLst t) (.list ds) := fun σ H Q q =>
  h σ H _ fun vs H1 s1 d1 => ⟨Nat.le_of_lt (small1000 (by rw [d1.length]; exact z)), fun p hp => q _ _ (s1.trans (Same.new hp)) (.lst (s1.free hp) upd_same (d1.grow (Same.new hp)))⟩
structure Gd (n L : Nat) (d : PyData) : Prop where
  sh : d.showable = true
  dp : d.depth ≤ n
  ln : d.shown.length ≤ L
def gdB (n L : Nat) (d : PyData) : Bool := d.showable && (decide (d.depth ≤ n) && decide (d.shown.length ≤ L))
theorem gdB_ok {n L : Nat} {d : PyData} (h : gdB n L d = true) : Gd n L d := by
  obtain ⟨h1, h2⟩ := Bool.and_eq_true_iff.mp h
  obtain ⟨h3, h4⟩ := Bool.and_eq_true_iff.mp h2
  exact ⟨h1, of_decide_eq_true h3, of_decide_eq_true h4⟩
theorem gd_all {n L : Nat} {ds : List PyData} (h : (ds.all fun d => gdB n L d) = true) {i : Nat} {d : PyData} (e : ds[i]? = some d) : Gd n L d :=
  gdB_ok (List.all_eq_true.mp h d (List.mem_of_getElem? e))
theorem Gd.mono {n L m M : Nat} {d : PyData} (h : Gd n L d) (a : n ≤ m) (b : L ≤ M) : Gd m M d := ⟨h.sh, Nat.le_trans h.dp a, Nat.le_trans h.ln b⟩
theorem gd_sum {n L : Nat} : ∀ {ds : List PyData}, (∀ d ∈ ds, Gd n L d) → PyData.showableAll ds = true ∧ PyData.depthAll ds ≤ n ∧ ((PyData.shownAll ds).map (·.length)).sum + 2 * ds.length ≤ (L + 2) * ds.length
  | [], _ => by simp [PyData.showableAll, PyData.depthAll, PyData.shownAll]
  | d :: ds, h => by
    obtain ⟨h1, h2, h3⟩ := gd_sum (ds := ds) fun x hx => h x (List.mem_cons_of_mem _ hx)
    have g := h d List.mem_cons_self
    refine ⟨?_, ?_, ?_⟩
    · simp only [PyData.showableAll, g.sh, h1, Bool.and_self]
    · simp only [PyData.depthAll]
      exact Nat.max_le.mpr ⟨g.dp, h2⟩
    · have ln := g.ln
      simp only [PyData.shownAll, List.map_cons, List.sum_cons, List.length_cons]
      rw [Nat.mul_add, Nat.mul_add]
      omega
theorem gd_tup {n L m : Nat} {ds : List PyData} (h : ∀ d ∈ ds, Gd n L d) (hm : ds.length ≤ m) : Gd (n + 1) ((L + 2) * m + 3) (.tuple ds) := by
  obtain ⟨h1, h2, h3⟩ := gd_sum h
  have hk : (L + 2) * ds.length ≤ (L + 2) * m := Nat.mul_le_mul_left _ hm
  refine ⟨by simp only [PyData.showable, h1], by simp only [PyData.depth]; omega, ?_⟩
  simp only [PyData.shown]
  have q := tupleText_len_le (PyData.shownAll ds)
  rw [PyData.shownAll_length] at q
  omega
theorem gd_lst {n L m : Nat} {ds : List PyData} (h : ∀ d ∈ ds, Gd n L d) (hm : ds.length ≤ m) : Gd (n + 1) ((L + 2) * m + 3) (.list ds) := by
  obtain ⟨h1, h2, h3⟩ := gd_sum h
  have hk : (L + 2) * ds.length ≤ (L + 2) * m := Nat.mul_le_mul_left _ hm
  refine ⟨by simp only [PyData.showable, h1], by simp only [PyData.depth]; omega, ?_⟩
  simp only [PyData.shown]
  have q := listText_len_le (PyData.shownAll ds)
  rw [PyData.shownAll_length] at q
  omega
theorem Kw.seqT {K : PySem.W.Frag} {w t : Addr} {H H' : Hp} {c : Int} {xs : List V} (k : Kw w H H') (hw : Wl H w c) (h : SqT K H t xs) : SqT K H' t xs := by
  obtain ⟨n, m, e, _⟩ := hw
  (rcases h with (h | ⟨o, h⟩) | h)
  · exact .inl (.inl (k _ _ (ne_of h e (by intro q; cases q)) h))
  · exact .inl (.inr ⟨o, k _ _ (ne_of h e (by intro q; cases q)) h⟩)
  · exact .inr h
def spPick (K : PySem.W.Frag) : Sp := fun vs H Q _ => ∃ (w t : Addr) (xs : List V) (c : Int), vs = [.ref w, .ref t] ∧ Wl H w c ∧ c < 2 ^ 60 ∧ SqT K H t xs ∧ 0 < xs.length ∧ xs.length ≤ 1000 ∧
  ∀ (i : Nat) (v : V) (c' : Int) (H' : Hp), xs[i]? = some v → Kw w H H' → Wl H' w c' → c' ≤ c + 1 → Q v H'
def spOdd (ds : List PyData) : Sp := fun vs H Q _ => ∃ (w : Addr) (c : Int), vs = [.ref w] ∧ Wl H w c ∧ c < 2 ^ 60 ∧
  ∀ (i : Nat) (v : V) (d : PyData) (c' : Int) (H' : Hp), ds[i]? = some d → Dt (New H) H' v d → Kw w H H' → Wl H' w c' → c' ≤ c + 1 → Q v H'
theorem Kw.data {w : Addr} {H0 H H' : Hp} {v : V} {d : PyData} (k : Kw w H H') (hw : H0 w ≠ none) (h : Dt (New H0) H v d) : Dt (New H0) H' v d :=
  h.move fun a o f e => ⟨f, k a o (fun z => hw (by rw [← z]; exact f)) e⟩
theorem Kw.dataA {w : Addr} {H0 H H' : Hp} {v : List V} {d : List PyData} (k : Kw w H H') (hw : H0 w ≠ none) (h : DtA (New H0) H v d) : DtA (New H0) H' v d :=
  h.move fun a o f e => ⟨f, k a o (fun z => hw (by rw [← z]; exact f)) e⟩
end KB
namespace KB
open PySem L2 PySem.Spec PyProof.Rows
theorem DE.asg {te : TE} {d : PyData} {g : TG} {rest : TS} {D : Ends} {σ : L2.St} {H : Hp} (h : DE te d)
    (k : ∀ v H', Same H H' → Dt (New H) H' v d → g v σ H' fun s2 H2 => rest D s2 H2) : tSeq (tAsg te g) rest D σ H := h σ H _ k
end KB
namespace KB
open PySem L2 PySem.Spec PyProof.Rows
def spWell (K : PySem.W.Frag) : Sp := fun vs H Q _ => ∃ (a : Addr) (ns : List Int) (t : Int), vs = [.ref a, .int t] ∧ SqL K H a (ns.map V.int) ∧ 0 ≤ t ∧ t < 100 ∧
  ∀ (w : Addr) (H' : Hp), H w = none → Same H H' → Wl H' w 0 → Q (.ref w) H'
theorem cut_ints (ns : List Int) (lo hi : Option Int) : ∀ y ∈ cutV (ns.map V.int) lo hi, ∃ k, y = V.int k := by
  intro y hy
  unfold cutV at hy
  have h1 := List.mem_of_mem_drop (List.mem_of_mem_take hy)
  obtain ⟨k, _, e⟩ := List.mem_map.mp h1
  exact ⟨k, e.symm⟩
end KB
namespace KB
open PySem L2 PySem.Spec PyProof.Rows
abbrev Nw (w : Addr) : Addr → Prop := fun a => a ≠ w
theorem Dt.kw {w : Addr} {H H' : Hp} {v : V} {d : PyData} (h : Dt (Nw w) H v d) (k : Kw w H H') : Dt (Nw w) H' v d := h.move fun a o f e => ⟨f, k a o f e⟩
theorem DtA.kw {w : Addr} {H H' : Hp} {v : List V} {d : List PyData} (h : DtA (Nw w) H v d) (k : Kw w H H') : DtA (Nw w) H' v d := h.move fun a o f e => ⟨f, k a o f e⟩
theorem Dt.nw {w : Addr} {H H' : Hp} {v : V} {d : PyData} (h : Dt (New H) H' v d) (hw : H w ≠ none) : Dt (Nw w) H' v d := h.move fun a o f e => ⟨fun z => hw (by rw [← z]; exact f), e⟩
theorem Kw.free {w a : Addr} {H H' : Hp} (k : Kw w H H') (hw : H' w ≠ none) (h : H' a = none) : H a = none := by
  cases e : H a with
  | none => rfl
  | some o =>
    by_cases q : a = w
    · subst q
      exact absurd h hw
    · rw [k a o q e] at h
      cases h
inductive Kd | num | unit | var (x : Str) | lst (a : Kd) | pair (a b : Kd) | eith (a b : Kd) | fn (a b : Kd)
def Kd.d : Kd → PyData
  | num => .tuple [.str "num"]
  | unit => .tuple [.str "unit"]
  | var x => .tuple [.str "var", .str x]
  | lst a => .tuple [.str "list", a.d]
  | pair a b => .tuple [.str "pair", a.d, b.d]
  | eith a b => .tuple [.str "either", a.d, b.d]
  | fn a b => .tuple [.str "fun", a.d, b.d]
def Kd.dep : Kd → Nat
  | num => 1
  | unit => 1
  | var _ => 1
  | lst a => a.dep + 1
  | pair a b => max a.dep b.dep + 1
  | eith a b => max a.dep b.dep + 1
  | fn a b => max a.dep b.dep + 1
def Kd.closed : Kd → Bool
  | num => true
  | unit => true
  | var _ => false
  | lst a => a.closed
  | pair a b => a.closed && b.closed
  | eith a b => a.closed && b.closed
  | fn a b => a.closed && b.closed
def Kd.noFn : Kd → Bool
  | num => true
  | unit => true
  | var _ => true
  | lst a => a.noFn
  | pair a b => a.noFn && b.noFn
  | eith a b => a.noFn && b.noFn
  | fn _ _ => false
def Ck : Nat → Int
  | 0 => 2
  | n + 1 => 2 * Ck n + 2
theorem Ck_ge : ∀ n, 2 ≤ Ck n
  | 0 => Int.le_refl _
  | n + 1 => by
    have := Ck_ge n
    unfold Ck
    omega
def spKind (n : Nat) : Sp := fun vs H Q _ => ∃ (w : Addr) (wh c : Int), vs = [.ref w, .int n, .int wh] ∧ Wl H w c ∧ c + Ck n < 2 ^ 60 ∧
  ∀ (v : V) (k : Kd) (c' : Int) (H' : Hp), Dt (Nw w) H' v k.d → k.dep ≤ max n 1 → (2 ≤ wh → k.closed = true) → (wh = 1 ∨ wh = 2 → k.noFn = true) → Kw w H H' → Wl H' w c' → c' ≤ c + Ck n → Q v H'
theorem kind_draw {σ : L2.St} {H : Hp} {w : Addr} {n c : Int} {Q : VK} (h0 : σ[0]? = some (some (V.ref w))) (h1 : σ[1]? = some (some (V.int n))) (hw : Wl H w c) (hc : c < 2 ^ 60)
    (h : ∀ (b c1 : Int) (H1 : Hp), 0 ≤ b → (b < 4 ∨ (1 < n ∧ b < 12)) → Kw w H H1 → Wl H1 w c1 → c1 ≤ c + 1 → Q (.int b) H1) :
    tIf (tTest (tOp (rI0 fun i j => V.bl (decide (j < i))) (tVar 1) (tC (V.int 1)))) (tCall spDraw [] E0 (tCons (tVar 0) (tCons (tC (V.int 12)) tNil))) (tCall spDraw [] E0 (tCons (tVar 0) (tCons (tC (V.int 4)) tNil))) σ H Q := by
  refine ⟨_, h1, _, _, rfl, rfl, _, rfl, ite2 (fun g => ?_) (fun g => ?_)⟩
  · exact ⟨_, h0, w, 12, c, rfl, hw, hc, by decide, by decide, fun b c1 H1 b0 b1 k1 w1 e1 => h b c1 H1 b0 (.inr ⟨of_decide_eq_true g, b1⟩) k1 w1 e1⟩
  · exact ⟨_, h0, w, 4, c, rfl, hw, hc, by decide, by decide, fun b c1 H1 b0 b1 k1 w1 e1 => h b c1 H1 b0 (.inl b1) k1 w1 e1⟩
end KB
namespace KB
open PySem L2 PySem.Spec PyProof.Rows
def CPowB (i j : Int) : Prop := 0 ≤ j ∧ (Builtin.Int.intBits i : Int) * j ≤ 2 ^ 27
theorem op_powB {X : Cx} : OpR X (binaryOp .Pow) (rI CPowB fun i j => .int (i ^ j.toNat)) := opI fun _ _ _ _ _ _ _ hc q => pow_int hc.1 hc.2 q
theorem gd_int {i : Int} (h : i.natAbs < 10 ^ 12) (n : Nat) {L : Nat} (hL : 13 ≤ L) : Gd n L (.int i) := by
  refine ⟨?_, by simp only [PyData.depth]; omega, Nat.le_trans (PyData.shown_int_le h) hL⟩
  (simp only [PyData.showable, decide_eq_true_eq])
  have h1 : i.natAbs < 2 ^ 40 := Nat.lt_of_lt_of_le h (by decide)
  have := PySem.Flt.log2_lt_of (k := 40) (by decide) h1
  omega
def bg : Nat := 10 ^ 410
theorem bg_big {n : Nat} (h : n < 10 ^ 12) : n ≤ bg := Nat.le_of_lt (Nat.lt_trans h (by decide +kernel))
def spNum : Sp := fun vs H Q _ => ∃ (w : Addr) (c : Int), vs = [.ref w] ∧ Wl H w c ∧ c + 3 < 2 ^ 60 ∧
  ∀ (i c' : Int) (H' : Hp), Gd 0 305 (.int i) → i.natAbs ≤ bg → Kw w H H' → Wl H' w c' → c' ≤ c + 3 → Q (.int i) H'
end KB
namespace KB
open PySem L2 PySem.Spec PyProof.Rows
mutual
def sz : PyData → Nat
  | .tuple ds => szA ds + 3
  | .list ds => szA ds + 3
  | .none => PyData.none.shown.length
  | .bool b => (PyData.bool b).shown.length
  | .int i => (PyData.int i).shown.length
  | .str x => (PyData.str x).shown.length
  | .dict k => (PyData.dict k).shown.length
def szA : List PyData → Nat
  | [] => 0
  | d :: ds => sz d + 2 + szA ds
end
theorem szA_app : ∀ a b : List PyData, szA (a ++ b) = szA a + szA b
  | [], b => by rw [List.nil_append, szA, Nat.zero_add]
  | d :: a, b => by
    rw [List.cons_append, szA, szA, szA_app a b]
    omega
theorem szA_len : ∀ a : List PyData, 2 * a.length ≤ szA a
  | [] => Nat.zero_le _
  | d :: a => by
    have := szA_len a
    rw [List.length_cons, szA]
    omega
theorem szA_mem : ∀ {a : List PyData} {d : PyData}, d ∈ a → sz d + 2 ≤ szA a
  | d :: a, e, h => by
    rw [szA]
    rcases List.mem_cons.mp h with h | h
    · rw [h]
      omega
    · have := szA_mem h
      omega
mutual
theorem sz_shown : ∀ d : PyData, d.shown.length ≤ sz d
  | .tuple ds => by
    have h := szA_shown ds
    have q := tupleText_len_le (PyData.shownAll ds)
    rw [PyData.shownAll_length] at q
    simp only [PyData.shown, sz]
    omega
  | .list ds => by
    have h := szA_shown ds
    have q := listText_len_le (PyData.shownAll ds)
    rw [PyData.shownAll_length] at q
    simp only [PyData.shown, sz]
    omega
  | .none => by rw [sz]; exact Nat.le_refl _
  | .bool _ => by rw [sz]; exact Nat.le_refl _
  | .int _ => by rw [sz]; exact Nat.le_refl _
  | .str _ => by rw [sz]; exact Nat.le_refl _
  | .dict _ => by rw [sz]; exact Nat.le_refl _
theorem szA_shown : ∀ ds : List PyData, ((PyData.shownAll ds).map (·.length)).sum + 2 * ds.length ≤ szA ds
  | [] => by simp [PyData.shownAll, szA]
  | d :: ds => by
    have h1 := sz_shown d
    have h2 := szA_shown ds
    simp only [PyData.shownAll, List.map_cons, List.sum_cons, List.length_cons, szA]
    omega
end
structure Sd (n L : Nat) (d : PyData) : Prop where
  sh : d.showable = true
  dp : d.depth ≤ n
  ln : sz d ≤ L
theorem Sd.gd {n L : Nat} {d : PyData} (h : Sd n L d) : Gd n L d := ⟨h.sh, h.dp, Nat.le_trans (sz_shown d) h.ln⟩
theorem Sd.mono {n L m M : Nat} {d : PyData} (h : Sd n L d) (a : n ≤ m) (b : L ≤ M) : Sd m M d := ⟨h.sh, Nat.le_trans h.dp a, Nat.le_trans h.ln b⟩
def sdB (n L : Nat) (d : PyData) : Bool := d.showable && (decide (d.depth ≤ n) && decide (sz d ≤ L))
theorem sdB_ok {n L : Nat} {d : PyData} (h : sdB n L d = true) : Sd n L d := by
  obtain ⟨h1, h2⟩ := Bool.and_eq_true_iff.mp h
  obtain ⟨h3, h4⟩ := Bool.and_eq_true_iff.mp h2
  exact ⟨h1, of_decide_eq_true h3, of_decide_eq_true h4⟩
theorem Gd.sd {n L : Nat} {i : Int} (h : Gd n L (.int i)) : Sd n L (.int i) := ⟨h.sh, h.dp, by rw [sz]; exact h.ln⟩
structure SdA (n L : Nat) (ds : List PyData) : Prop where
  sh : PyData.showableAll ds = true
  dp : PyData.depthAll ds ≤ n
  ln : szA ds ≤ L
theorem SdA.mono {n L m M : Nat} {d : List PyData} (h : SdA n L d) (a : n ≤ m) (b : L ≤ M) : SdA m M d := ⟨h.sh, Nat.le_trans h.dp a, Nat.le_trans h.ln b⟩
theorem SdA.nil {n L : Nat} : SdA n L [] := ⟨by simp [PyData.showableAll], by simp [PyData.depthAll], by rw [szA]; exact Nat.zero_le _⟩
theorem SdA.cons {n L M : Nat} {d : PyData} {ds : List PyData} (h : Sd n L d) (r : SdA n M ds) : SdA n (L + 2 + M) (d :: ds) :=
  ⟨by simp only [PyData.showableAll, h.sh, r.sh, Bool.and_self], by simp only [PyData.depthAll]; exact Nat.max_le.mpr ⟨h.dp, r.dp⟩, by have := h.ln; have := r.ln; rw [szA]; omega⟩
theorem SdA.app {n L M : Nat} : ∀ {a b : List PyData}, SdA n L a → SdA n M b → SdA n (L + M) (a ++ b)
  | [], b, _, h => by
    rw [List.nil_append]
    exact h.mono (Nat.le_refl _) (Nat.le_add_left _ _)
  | d :: a, b, ha, hb => by
    have s1 : d.showable = true ∧ PyData.showableAll a = true := by simpa [PyData.showableAll] using ha.sh
    have d1 : d.depth ≤ n ∧ PyData.depthAll a ≤ n := by simpa [PyData.depthAll, Nat.max_le] using ha.dp
    have l1 : sz d + 2 + szA a ≤ L := by simpa [szA] using ha.ln
    have r : SdA n (szA a + M) (a ++ b) := SdA.app ⟨s1.2, d1.2, Nat.le_refl _⟩ hb
    exact (SdA.cons (L := sz d) ⟨s1.1, d1.1, Nat.le_refl _⟩ r).mono (Nat.le_refl _) (by omega)
theorem SdA.all {n L : Nat} : ∀ {a : List PyData}, SdA n L a → ∀ d ∈ a, Sd n L d
  | d :: a, h, e, m => by
    have s1 : d.showable = true ∧ PyData.showableAll a = true := by simpa [PyData.showableAll] using h.sh
    have d1 : d.depth ≤ n ∧ PyData.depthAll a ≤ n := by simpa [PyData.depthAll, Nat.max_le] using h.dp
    have l1 : sz d + 2 + szA a ≤ L := by simpa [szA] using h.ln
    rcases List.mem_cons.mp m with z | z
    · rw [z]
      exact ⟨s1.1, d1.1, by omega⟩
    · exact SdA.all (L := L) ⟨s1.2, d1.2, by omega⟩ e z
theorem SdA.sub {n L : Nat} {a b : List PyData} (h : SdA n L a) (s : b.Sublist a) : SdA n L b := by
  induction s generalizing L with
  | slnil => exact h
  | @cons l1 l2 x s ih =>
    have s1 : x.showable = true ∧ PyData.showableAll l2 = true := by simpa [PyData.showableAll] using h.sh
    have d1 : x.depth ≤ n ∧ PyData.depthAll l2 ≤ n := by simpa [PyData.depthAll, Nat.max_le] using h.dp
    have l1 : sz x + 2 + szA l2 ≤ L := by simpa [szA] using h.ln
    exact ih ⟨s1.2, d1.2, by omega⟩
  | @cons_cons l1 l2 x s ih =>
    have s1 : x.showable = true ∧ PyData.showableAll l2 = true := by simpa [PyData.showableAll] using h.sh
    have d1 : x.depth ≤ n ∧ PyData.depthAll l2 ≤ n := by simpa [PyData.depthAll, Nat.max_le] using h.dp
    have l1 : sz x + 2 + szA l2 ≤ L := by simpa [szA] using h.ln
    exact (SdA.cons (L := sz x) ⟨s1.1, d1.1, Nat.le_refl _⟩ (ih (L := szA l2) ⟨s1.2, d1.2, Nat.le_refl _⟩)).mono (Nat.le_refl _) (by omega)
theorem SdA.tup {n L : Nat} {a : List PyData} (h : SdA n L a) : Sd (n + 1) (L + 3) (.tuple a) := ⟨by simp only [PyData.showable, h.sh], by have := h.dp; simp only [PyData.depth]; omega, by have := h.ln; rw [sz]; omega⟩
theorem SdA.lst {n L : Nat} {a : List PyData} (h : SdA n L a) : Sd (n + 1) (L + 3) (.list a) := ⟨by simp only [PyData.showable, h.sh], by have := h.dp; simp only [PyData.depth]; omega, by have := h.ln; rw [sz]; omega⟩
theorem Sd.parts {n L : Nat} {a : List PyData} (h : Sd n L (.tuple a)) : SdA n L a := ⟨by have := h.sh; simpa only [PyData.showable] using this, by have := h.dp; simp only [PyData.depth] at this; omega, by have := h.ln; rw [sz] at this; omega⟩
theorem Sd.parts1 {n L : Nat} {a : List PyData} (h : Sd (n + 1) L (.tuple a)) : SdA n L a := ⟨by have := h.sh; simpa only [PyData.showable] using this, by have := h.dp; simp only [PyData.depth] at this; omega, by have := h.ln; rw [sz] at this; omega⟩
theorem sdA_of {n L : Nat} : ∀ {ds : List PyData}, (∀ d ∈ ds, Sd n L d) → SdA n ((L + 2) * ds.length) ds
  | [], _ => SdA.nil
  | d :: ds, h => (SdA.cons (h d List.mem_cons_self) (sdA_of fun x hx => h x (List.mem_cons_of_mem _ hx))).mono (Nat.le_refl _) (by rw [List.length_cons, Nat.mul_add]; omega)
theorem sd_tup {n L m : Nat} {ds : List PyData} (h : ∀ d ∈ ds, Sd n L d) (hm : ds.length ≤ m) : Sd (n + 1) ((L + 2) * m + 3) (.tuple ds) :=
  (sdA_of h).tup.mono (Nat.le_refl _) (Nat.add_le_add_right (Nat.mul_le_mul_left _ hm) 3)
theorem Sd.len {n L : Nat} {a : List PyData} (h : Sd n L (.tuple a)) : 2 * a.length ≤ L := by
  have := szA_len a
  have := h.parts.ln
  omega
end KB
namespace KB
open PySem L2 PySem.Spec PyProof.Rows
theorem ifT {c : Bool} {A B : Prop} (hc : c = true) (h : A) : if c = true then A else B := by
  rw [if_pos hc]
  exact h
theorem ifF {c : Bool} {A B : Prop} (hc : c = false) (h : B) : if c = true then A else B := by
  (rw [hc, if_neg Bool.false_ne_true])
  exact h
def isV : Kd → PyData → Bool
  | .num, .int _ => true
  | .unit, .tuple [] => true
  | .lst a, .tuple xs => xs.all fun x => isV a x
  | .pair a b, .tuple [.str p, x, y] => decide (p = "pair") && (isV a x && isV b y)
  | .eith a b, .tuple [.str p, x] => if p = "left" then isV a x else decide (p = "right") && isV b x
  | _, _ => false
inductive VV (N : Nat) : Kd → PyData → Prop
  | num (i : Int) (h : i.natAbs ≤ bg + 10 * N) : VV N .num (.int i)
  | unit : VV N .unit (.tuple [])
  | lst {a : Kd} {xs : List PyData} (hl : xs.length ≤ N) (h : ∀ x ∈ xs, VV N a x) : VV N (.lst a) (.tuple xs)
  | pair {a b : Kd} {x y : PyData} (hx : VV N a x) (hy : VV N b y) : VV N (.pair a b) (.tuple [.str "pair", x, y])
  | left {a b : Kd} {x : PyData} (hx : VV N a x) : VV N (.eith a b) (.tuple [.str "left", x])
  | right {a b : Kd} {x : PyData} (hx : VV N b x) : VV N (.eith a b) (.tuple [.str "right", x])
theorem Dt.tupI {F : Addr → Prop} {H : Hp} {v : V} {ds : List PyData} (h : Dt F H v (.tuple ds)) : ∃ a xs, v = .ref a ∧ F a ∧ H a = some (.tup xs) ∧ DtA F H xs ds := by
  cases h with
  | tup f h r => exact ⟨_, _, rfl, f, h, r⟩
theorem Dt.strI {F : Addr → Prop} {H : Hp} {v : V} {x : Str} (h : Dt F H v (.str x)) : v = .str x := by
  cases h
  rfl
theorem Dt.intI {F : Addr → Prop} {H : Hp} {v : V} {x : Int} (h : Dt F H v (.int x)) : v = .int x := by
  cases h
  rfl
theorem DtA.one {F : Addr → Prop} {H : Hp} {xs : List V} {d : PyData} (h : DtA F H xs [d]) : ∃ x, xs = [x] ∧ Dt F H x d := by
  cases h with
  | cons a r =>
    cases r
    exact ⟨_, rfl, a⟩
theorem DtA.two {F : Addr → Prop} {H : Hp} {xs : List V} {d e : PyData} (h : DtA F H xs [d, e]) : ∃ x y, xs = [x, y] ∧ Dt F H x d ∧ Dt F H y e := by
  cases h with
  | cons a r =>
    obtain ⟨y, rfl, b⟩ := r.one
    exact ⟨_, _, rfl, a, b⟩
theorem DtA.three {F : Addr → Prop} {H : Hp} {xs : List V} {d e f : PyData} (h : DtA F H xs [d, e, f]) : ∃ x y z, xs = [x, y, z] ∧ Dt F H x d ∧ Dt F H y e ∧ Dt F H z f := by
  cases h with
  | cons a r =>
    obtain ⟨y, z, rfl, b, c⟩ := r.two
    exact ⟨_, _, _, rfl, a, b, c⟩
def KdAt (F : Addr → Prop) (H : Hp) (a : Addr) : Kd → Prop
  | .num => H a = some (.tup [.str "num"])
  | .unit => H a = some (.tup [.str "unit"])
  | .var x => H a = some (.tup [.str "var", .str x])
  | .lst k => ∃ x, H a = some (.tup [.str "list", x]) ∧ Dt F H x k.d
  | .pair k l => ∃ x y, H a = some (.tup [.str "pair", x, y]) ∧ Dt F H x k.d ∧ Dt F H y l.d
  | .eith k l => ∃ x y, H a = some (.tup [.str "either", x, y]) ∧ Dt F H x k.d ∧ Dt F H y l.d
  | .fn k l => ∃ x y, H a = some (.tup [.str "fun", x, y]) ∧ Dt F H x k.d ∧ Dt F H y l.d
theorem kd_at {F : Addr → Prop} {H : Hp} {v : V} : ∀ {k : Kd}, Dt F H v k.d → ∃ a, v = .ref a ∧ F a ∧ KdAt F H a k
  | .num, h => by
    obtain ⟨a, xs, rfl, f, h, r⟩ := h.tupI
    obtain ⟨x, rfl, hx⟩ := r.one
    rw [hx.strI] at h
    exact ⟨a, rfl, f, h⟩
  | .unit, h => by
    obtain ⟨a, xs, rfl, f, h, r⟩ := h.tupI
    obtain ⟨x, rfl, hx⟩ := r.one
    rw [hx.strI] at h
    exact ⟨a, rfl, f, h⟩
  | .var y, h => by
    obtain ⟨a, xs, rfl, f, h, r⟩ := h.tupI
    obtain ⟨x, z, rfl, hx, hz⟩ := r.two
    rw [hx.strI, hz.strI] at h
    exact ⟨a, rfl, f, h⟩
  | .lst k, h => by
    obtain ⟨a, xs, rfl, f, h, r⟩ := h.tupI
    obtain ⟨x, z, rfl, hx, hz⟩ := r.two
    rw [hx.strI] at h
    exact ⟨a, rfl, f, z, h, hz⟩
  | .pair k l, h => by
    obtain ⟨a, xs, rfl, f, h, r⟩ := h.tupI
    obtain ⟨x, y, z, rfl, hx, hy, hz⟩ := r.three
    rw [hx.strI] at h
    exact ⟨a, rfl, f, y, z, h, hy, hz⟩
  | .eith k l, h => by
    obtain ⟨a, xs, rfl, f, h, r⟩ := h.tupI
    obtain ⟨x, y, z, rfl, hx, hy, hz⟩ := r.three
    rw [hx.strI] at h
    exact ⟨a, rfl, f, y, z, h, hy, hz⟩
  | .fn k l, h => by
    obtain ⟨a, xs, rfl, f, h, r⟩ := h.tupI
    obtain ⟨x, y, z, rfl, hx, hy, hz⟩ := r.three
    rw [hx.strI] at h
    exact ⟨a, rfl, f, y, z, h, hy, hz⟩
theorem VV.mono {M N : Nat} (h : M ≤ N) : ∀ {k : Kd} {d : PyData}, VV M k d → VV N k d
  | _, _, .num i hi => .num i (by omega)
  | _, _, .unit => .unit
  | _, _, .lst hl r => .lst (Nat.le_trans hl h) fun x hx => (r x hx).mono h
  | _, _, .pair a b => .pair (a.mono h) (b.mono h)
  | _, _, .left a => .left (a.mono h)
  | _, _, .right a => .right (a.mono h)
theorem VV.isV {N : Nat} : ∀ {k : Kd} {d : PyData}, VV N k d → KB.isV k d = true
  | _, _, .num i _ => by simp only [KB.isV]
  | _, _, .unit => by simp only [KB.isV]
  | _, _, .lst hl r => by
    simp only [KB.isV]
    exact List.all_eq_true.mpr fun x hx => (r x hx).isV
  | _, _, .pair a b => by simp only [KB.isV, a.isV, b.isV, decide_true, Bool.and_self]
  | _, _, .left a => by simp only [KB.isV, a.isV, if_true]
  | _, _, .right a => by
    simp only [KB.isV, a.isV, decide_true, Bool.and_self]
    rfl
def VC : Nat → Int
  | 0 => 3
  | n + 1 => 5 * VC n + 5
def VL : Nat → Nat
  | 0 => 305
  | n + 1 => (VL n + 2) * 4 + 3
theorem VC_ge : ∀ n, 3 ≤ VC n
  | 0 => Int.le_refl _
  | n + 1 => by
    have := VC_ge n
    unfold VC
    omega
theorem VL_ge : ∀ n, 305 ≤ VL n
  | 0 => Nat.le_refl _
  | n + 1 => by
    have := VL_ge n
    unfold VL
    omega
def spVal (n : Nat) : Sp := fun vs H Q _ => ∃ (w : Addr) (kv : V) (k : Kd) (c : Int), vs = [.ref w, kv] ∧ Dt (Nw w) H kv k.d ∧ k.dep ≤ n ∧ k.closed = true ∧ k.noFn = true ∧ Wl H w c ∧ c + VC n < 2 ^ 60 ∧
  ∀ (v : V) (d : PyData) (c' : Int) (H' : Hp), Dt (New H) H' v d → VV 4 k d → Sd n (VL n) d → Kw w H H' → Wl H' w c' → c' ≤ c + VC n → Q v H'
end KB
namespace KB
open PySem L2 PySem.Spec PyProof.Rows
section
variable {F : Addr → Prop} {H H' : Hp} {K : PySem.W.Frag}
theorem Dt.keep {v : V} {d : PyData} (h : Dt F H v d) (k : Same H H') : Dt F H' v d := h.move fun a o f e => ⟨f, k a o e⟩
theorem DtA.keep {v : List V} {d : List PyData} (h : DtA F H v d) (k : Same H H') : DtA F H' v d := h.move fun a o f e => ⟨f, k a o e⟩
theorem DtA.take : ∀ {vs : List V} {ds : List PyData} (n : Nat), DtA F H vs ds → DtA F H (vs.take n) (ds.take n)
  | _, _, 0, _ => by
    rw [List.take_zero, List.take_zero]
    exact .nil
  | _, _, n + 1, .nil => .nil
  | _, _, n + 1, .cons h r => .cons h (r.take n)
theorem DtA.drop : ∀ {vs : List V} {ds : List PyData} (n : Nat), DtA F H vs ds → DtA F H (vs.drop n) (ds.drop n)
  | _, _, 0, h => h
  | _, _, n + 1, .nil => .nil
  | _, _, n + 1, .cons h r => r.drop n
theorem DtA.at_ : ∀ {vs : List V} {ds : List PyData} {i : Nat} {d : PyData}, DtA F H vs ds → ds[i]? = some d → ∃ v, vs[i]? = some v ∧ Dt F H v d
  | _, _, 0, _, .cons h _, e => ⟨_, rfl, by cases e; exact h⟩
  | _, _, i + 1, _, .cons _ r, e => r.at_ (i := i) e
theorem ixD {v : V} {ds : List PyData} {i : Nat} {d : PyData} {Q : VK} (h : Dt F H v (.tuple ds)) (e : ds[i]? = some d) (q : ∀ x, Dt F H x d → Q x H) : rIxT K v (.int (i : Int)) H Q := by
  obtain ⟨a, xs, rfl, f, ha, r⟩ := h.tupI
  obtain ⟨x, hx, dx⟩ := r.at_ e
  exact ⟨a, xs, _, x, rfl, rfl, SqT.of ha, atI_nat hx, q x dx⟩
theorem ixD0 {v : V} {ds : List PyData} {d : PyData} {Q : VK} (h : Dt F H v (.tuple (d :: ds))) (q : ∀ x, Dt F H x d → Q x H) : rIxT K v (.int 0) H Q := ixD (i := 0) h rfl q
theorem catD {x y : V} {ds es : List PyData} {Q : VK} (hF : ∀ p, H p = none → F p) (hx : Dt F H x (.tuple ds)) (hy : Dt F H y (.tuple es)) (hz : ds.length + es.length ≤ 16000000) (q : ∀ v H', Same H H' → Dt F H' v (.tuple (ds ++ es)) → Q v H') : rCatA K x y H Q := by
  obtain ⟨a, xs, rfl, f, ha, r⟩ := hx.tupI
  obtain ⟨b, ys, rfl, f2, hb, r2⟩ := hy.tupI
  have l1 := r.length
  have l2 := r2.length
  refine ⟨a, b, xs, ys, rfl, rfl, SqT.of ha, SqT.of hb, Nat.le_trans (by omega : xs.length + ys.length ≤ 16000000) (by decide), fun e => ?_, fun _ e => ?_, fun _ _ p np => ?_⟩
  · subst e
    cases r
    exact q _ H (Same.refl H) (.tup f2 hb r2)
  · subst e
    cases r2
    rw [List.append_nil] at q
    exact q _ H (Same.refl H) (.tup f ha r)
  · exact q _ _ (Same.new np) (.tup (hF p np) upd_same ((r.append r2).keep (Same.new np)))
theorem takeD {x : V} {ds : List PyData} {i : Nat} {Q : VK} (hF : ∀ p, H p = none → F p) (hx : Dt F H x (.tuple ds)) (hi : i ≤ ds.length) (q : ∀ v H', Same H H' → Dt F H' v (.tuple (ds.take i)) → Q v H') : rSlA K x none (some (i : Int)) H Q := by
  obtain ⟨a, xs, rfl, f, ha, r⟩ := hx.tupI
  have l := r.length
  refine ⟨a, xs, rfl, SqT.of ha, fun e => ?_, fun _ p np => ?_⟩
  · rw [HT.sIx_nat] at e
    have : ds.take i = ds := List.take_of_length_le (by omega)
    rw [this] at q
    exact q _ H (Same.refl H) hx
  · refine q _ _ (Same.new np) (.tup (hF p np) upd_same ?_)
    have : cutV xs none (some (i : Int)) = xs.take i := by
      unfold cutV
      rw [HT.sIx_nat, HT.sIx_none, List.drop_zero, Nat.sub_zero, Nat.min_eq_left (by omega)]
    rw [this]
    exact (r.take i).keep (Same.new np)
theorem dropD {x : V} {ds : List PyData} {i : Nat} {Q : VK} (hF : ∀ p, H p = none → F p) (hx : Dt F H x (.tuple ds)) (q : ∀ v H', Same H H' → Dt F H' v (.tuple (ds.drop i)) → Q v H') : rSlA K x (some (i : Int)) none H Q := by
  obtain ⟨a, xs, rfl, f, ha, r⟩ := hx.tupI
  have l := r.length
  refine ⟨a, xs, rfl, SqT.of ha, fun e => ?_, fun _ p np => ?_⟩
  · rw [HT.sIx_nat] at e
    by_cases hi : i = 0
    · subst hi
      exact q _ H (Same.refl H) hx
    · have z : xs = [] := List.eq_nil_of_length_eq_zero (by omega)
      subst z
      cases r
      rw [show ([] : List PyData).drop i = [] from List.drop_nil] at q
      exact q _ H (Same.refl H) hx
  · refine q _ _ (Same.new np) (.tup (hF p np) upd_same ?_)
    have : cutV xs (some (i : Int)) none = xs.drop i := by
      unfold cutV
      rw [HT.sIx_nat, HT.sIx_none]
      by_cases hi : i ≤ xs.length
      · rw [Nat.min_eq_left hi]
        exact List.take_of_length_le (by rw [List.length_drop]; exact Nat.le_refl _)
      · rw [Nat.min_eq_right (by omega), List.drop_of_length_le (Nat.le_refl _), List.drop_of_length_le (by omega), List.take_nil]
    rw [this]
    exact (r.drop i).keep (Same.new np)
theorem layD {p : Addr} {vs : List V} {ds : List PyData} (hF : ∀ p, H p = none → F p) (np : H p = none) (r : DtA F H vs ds) : Dt F (upd H p (.tup vs)) (.ref p) (.tuple ds) := .tup (hF p np) upd_same (r.keep (Same.new np))
theorem lenD {v : V} {ds : List PyData} (h : Dt F H v (.tuple ds)) : ∃ a xs, v = .ref a ∧ SqT K H a xs ∧ xs.length = ds.length := by
  obtain ⟨a, xs, rfl, f, ha, r⟩ := h.tupI
  exact ⟨a, xs, rfl, SqT.of ha, r.length⟩
end
theorem nwF {w : Addr} {H : Hp} {c : Int} (hw : Wl H w c) : ∀ p, H p = none → Nw w p := fun p np z => hw.some (by rw [← z]; exact np)
end KB
namespace KB
open PySem L2 PySem.Spec PyProof.Rows
section
variable {K : PySem.W.Frag} {w : Addr} {σ : L2.St} {H : Hp} {c C : Int} {tc : TE} {ds : List PyData} {i u j : Nat} {vv : V} {P : PyData → Prop} {Q : VK}
theorem slL (hw : Wl H w c) (su : σ[u]? = some (some vv)) (sj : σ[j]? = some (some (V.int (i : Int)))) (hv : Dt (Nw w) H vv (.tuple ds)) (hi : i ≤ ds.length) {Q : VK} (q : ∀ v H', Same H H' → Dt (Nw w) H' v (.tuple (ds.take i)) → Q v H') :
    tSl (rSlA K) (tVar u) tNoPart (tPart (tVar j)) σ H Q := ⟨_, su, _, sj, _, rfl, takeD (nwF hw) hv hi q⟩
theorem slR (hw : Wl H w c) (su : σ[u]? = some (some vv)) (sj : σ[j]? = some (some (V.int (i : Int)))) (hv : Dt (Nw w) H vv (.tuple ds)) {Q : VK} (q : ∀ v H', Same H H' → Dt (Nw w) H' v (.tuple (ds.drop i)) → Q v H') :
    tSl (rSlA K) (tVar u) (tPart (tVar j)) tNoPart σ H Q := ⟨_, su, _, sj, _, rfl, dropD (nwF hw) hv q⟩
theorem slR1 (hw : Wl H w c) (su : σ[u]? = some (some vv)) (sj : σ[j]? = some (some (V.int (i : Int)))) (hv : Dt (Nw w) H vv (.tuple ds)) {Q : VK} (q : ∀ v H', Same H H' → Dt (Nw w) H' v (.tuple (ds.drop (i + 1))) → Q v H') :
    tSl (rSlA K) (tVar u) (tPart (tOp (rI0 fun i j => V.int (i + j)) (tVar j) (tC (V.int 1)))) tNoPart σ H Q := ⟨_, su, _, sj, _, _, rfl, rfl, _, rfl, dropD (i := i + 1) (nwF hw) hv q⟩
def Mid (w : Addr) (σ : L2.St) (H : Hp) (tc : TE) (P : PyData → Prop) (C : Int) : Prop := ∀ H1 : Hp, Same H H1 → ∀ Q' : VK, (∀ x e c' H2, Dt (Nw w) H2 x e → P e → Kw w H1 H2 → Wl H2 w c' → c' ≤ C → Q' x H2) → tc σ H1 Q'
theorem cat3 {tr : TE} {r : List PyData} (hw : Wl H w c) (su : σ[u]? = some (some vv)) (sj : σ[j]? = some (some (V.int (i : Int)))) (hv : Dt (Nw w) H vv (.tuple ds)) (hi : i ≤ ds.length) (hz : ds.length ≤ 4000000) (hr : r.length ≤ ds.length) (hc : Mid w σ H tc P C)
    (ht : ∀ (H1 : Hp) (c1 : Int), Wl H1 w c1 → Dt (Nw w) H1 vv (.tuple ds) → ∀ Q' : VK, (∀ v H2, Same H1 H2 → Dt (Nw w) H2 v (.tuple r) → Q' v H2) → tr σ H1 Q')
    (q : ∀ v e c' H', P e → Dt (Nw w) H' v (.tuple (ds.take i ++ [e] ++ r)) → Kw w H H' → Wl H' w c' → c' ≤ C → Q v H') :
    tOp (rCatA K) (tOp (rCatA K) (tSl (rSlA K) (tVar u) tNoPart (tPart (tVar j))) (tTup (tCons tc tNil))) tr σ H Q := by
  have l1 : (ds.take i).length ≤ ds.length := by rw [List.length_take]; omega
  refine slL hw su sj hv hi fun v1 H1 s1 e1 => ?_
  refine hc H1 s1 _ fun x e c' H2 dx pe k2 w2 hc' => ⟨Nat.le_of_lt (small1000 (by show (1 : Nat) ≤ 1000; decide)), fun p np => ?_⟩
  have s3 := @Same.new p _ (.tup [x]) np
  have dp : Dt (Nw w) _ (.ref p) (.tuple [e]) := layD (nwF w2) np (.cons dx .nil)
  have w3 := w2.same s3
  refine catD (nwF w3) ((e1.kw k2).keep s3) dp (by show _ + 1 ≤ _; omega) fun v4 H4 s4 e4 => ?_
  have w4 := w3.same s4
  refine ht H4 c' w4 ((((hv.keep s1).kw k2).keep s3).keep s4) _ fun v5 H5 s5 e5 => ?_
  have w5 := w4.same s5
  refine catD (nwF w5) (e4.keep s5) e5 (by rw [List.length_append]; show _ + 1 + _ ≤ _; omega) fun v6 H6 s6 e6 => ?_
  exact q v6 e c' H6 pe e6 ((Kw.same s1).trans (k2.trans (Kw.same (s3.trans (s4.trans (s5.trans s6)))))) (w5.same s6) hc'
theorem rep_at (hw : Wl H w c) (su : σ[u]? = some (some vv)) (sj : σ[j]? = some (some (V.int (i : Int)))) (hv : Dt (Nw w) H vv (.tuple ds)) (hi : i ≤ ds.length) (hz : ds.length ≤ 4000000) (hc : Mid w σ H tc P C)
    (q : ∀ v e c' H', P e → Dt (Nw w) H' v (.tuple (ds.take i ++ [e] ++ ds.drop (i + 1))) → Kw w H H' → Wl H' w c' → c' ≤ C → Q v H') :
    tOp (rCatA K) (tOp (rCatA K) (tSl (rSlA K) (tVar u) tNoPart (tPart (tVar j))) (tTup (tCons tc tNil))) (tSl (rSlA K) (tVar u) (tPart (tOp (rI0 fun i j => V.int (i + j)) (tVar j) (tC (V.int 1)))) tNoPart) σ H Q :=
  cat3 hw su sj hv hi hz (by rw [List.length_drop]; omega) hc (fun H1 c1 w1 e1 Q' q' => slR1 w1 su sj e1 q') q
theorem ins_at (hw : Wl H w c) (su : σ[u]? = some (some vv)) (sj : σ[j]? = some (some (V.int (i : Int)))) (hv : Dt (Nw w) H vv (.tuple ds)) (hi : i ≤ ds.length) (hz : ds.length ≤ 4000000) (hc : Mid w σ H tc P C)
    (q : ∀ v e c' H', P e → Dt (Nw w) H' v (.tuple (ds.take i ++ [e] ++ ds.drop i)) → Kw w H H' → Wl H' w c' → c' ≤ C → Q v H') :
    tOp (rCatA K) (tOp (rCatA K) (tSl (rSlA K) (tVar u) tNoPart (tPart (tVar j))) (tTup (tCons tc tNil))) (tSl (rSlA K) (tVar u) (tPart (tVar j)) tNoPart) σ H Q :=
  cat3 hw su sj hv hi hz (by rw [List.length_drop]; omega) hc (fun H1 c1 w1 e1 Q' q' => slR w1 su sj e1 q') q
theorem del_at (hw : Wl H w c) (su : σ[u]? = some (some vv)) (sj : σ[j]? = some (some (V.int (i : Int)))) (hv : Dt (Nw w) H vv (.tuple ds)) (hi : i ≤ ds.length) (hz : ds.length ≤ 4000000)
    (q : ∀ v H', Dt (Nw w) H' v (.tuple (ds.take i ++ ds.drop (i + 1))) → Same H H' → Q v H') :
    tOp (rCatA K) (tSl (rSlA K) (tVar u) tNoPart (tPart (tVar j))) (tSl (rSlA K) (tVar u) (tPart (tOp (rI0 fun i j => V.int (i + j)) (tVar j) (tC (V.int 1)))) tNoPart) σ H Q := by
  have l1 : (ds.take i).length ≤ ds.length := by rw [List.length_take]; omega
  have l2 : (ds.drop (i + 1)).length ≤ ds.length := by rw [List.length_drop]; omega
  refine slL hw su sj hv hi fun v1 H1 s1 e1 => ?_
  have w1 := hw.same s1
  refine slR1 w1 su sj (hv.keep s1) fun v2 H2 s2 e2 => ?_
  have w2 := w1.same s2
  exact catD (nwF w2) (e1.keep s2) e2 (by omega) fun v3 H3 s3 e3 => q v3 H3 e3 (s1.trans (s2.trans s3))
end
end KB
namespace KB
open PySem L2 PySem.Spec PyProof.Rows
def isInt : PyData → Bool
  | .int _ => true
  | .bool _ => true
  | _ => false
def isBool : PyData → Bool
  | .bool _ => true
  | _ => false
def isTup : PyData → Bool
  | .tuple _ => true
  | _ => false
def isStr : PyData → Bool
  | .str _ => true
  | _ => false
section
variable {F : Addr → Prop} {H : Hp} {K : PySem.W.Frag} {v : V} {d : PyData} {Q : VK}
theorem tyD (h : Dt F H v d) : ∃ t, TyX K H v t ∧ PySem.W.kitOne K t (.type "int") = some (isInt d) ∧ PySem.W.kitOne K t (.type "bool") = some (isBool d) ∧ PySem.W.kitOne K t (.type "tuple") = some (isTup d) ∧ PySem.W.kitOne K t (.type "str") = some (isStr d) := by
  cases h with
  | non => exact ⟨_, .base .non, rfl, rfl, rfl, rfl⟩
  | bl b => exact ⟨_, .base (.bl b), rfl, rfl, rfl, rfl⟩
  | int i => exact ⟨_, .base (.int i), rfl, rfl, rfl, rfl⟩
  | str x => exact ⟨_, .base (.str x), rfl, rfl, rfl, rfl⟩
  | lst f h r => exact ⟨_, .base (.lst h), rfl, rfl, rfl, rfl⟩
  | tup f h r => exact ⟨_, .base (.tup h), rfl, rfl, rfl, rfl⟩
  | emp f h => exact ⟨_, .base (.dK h), rfl, rfl, rfl, rfl⟩
end
def rEqE (K : PySem.W.Frag) : R2 := fun x y H Q => ∃ (a e : Addr) (xs : List V), x = .ref a ∧ y = .ref e ∧ SqT K H a xs ∧ SqT K H e [] ∧ Q (.bl (decide (xs.length = 0))) H
theorem op_eqE {X : Cx} (hu : X.A.units < cLine) : OpR X (compareOp .Eq) (rEqE X.K) := by
  (intro pins s σ H x y v u Q I rx ry h)
  obtain ⟨a, e, xs, rfl, rfl, ha, he, q⟩ := h
  (cases (show v = Value.ref a from rx))
  cases (show u = Value.ref e from ry)
  (obtain ⟨its, r1, p1, _⟩ := I.tuple ha)
  obtain ⟨its2, r2, p2, _⟩ := I.tuple he
  cases r2
  have l1 := r1.length
  refine SeqAt.eq_tupleAt (e := fun _ => true) p1 p2 hu (fun j _ h2 => absurd h2 (Nat.not_lt_zero j)) ⟨.bl (decide (xs.length = 0)), H, I, ?_, q⟩
  have : ((List.range (min its.toArray.size ([] : List Value).toArray.size)).all (fun _ => true) && its.toArray.size == ([] : List Value).toArray.size) = decide (xs.length = 0) := by
    rw [l1]
    show ((List.range (min its.length 0)).all (fun _ => true) && its.length == 0) = decide (its.length = 0)
    rw [Nat.min_zero]
    show (true && its.length == 0) = _
    rw [Bool.true_and]
    rfl
  rw [this]
  rfl
end KB
namespace KB
open PySem L2 PySem.Spec PyProof.Rows
def NC : Nat → Int
  | 0 => 3
  | n + 1 => NC n + VC n + 3
theorem NC_ge : ∀ n, 3 ≤ NC n
  | 0 => Int.le_refl _
  | n + 1 => by
    have := NC_ge n
    have := VC_ge n
    unfold NC
    omega
def spNear (n : Nat) : Sp := fun vs H Q _ => ∃ (w : Addr) (kv vv : V) (k : Kd) (d : PyData) (N : Nat) (c : Int), vs = [.ref w, kv, vv] ∧ Dt (Nw w) H kv k.d ∧ Dt (Nw w) H vv d ∧ VV N k d ∧ N ≤ 1000 ∧ 4 ≤ N ∧ k.dep ≤ n ∧ k.closed = true ∧ k.noFn = true ∧ Wl H w c ∧ c + NC n < 2 ^ 60 ∧
  ∀ (v : V) (e : PyData) (c' : Int) (H' : Hp), Dt (Nw w) H' v e → VV (N + 1) k e → Kw w H H' → Wl H' w c' → c' ≤ c + NC n → Q v H'
end KB
namespace KB
open PySem L2 PySem.Spec PyProof.Rows
theorem ixT {X : Cx} {K : PySem.W.Frag} (h : X.K = K) : IxR X (rIxT K) := by
  rw [← h]
  exact ix_tup
theorem isV_unit (d : PyData) (ds : List PyData) : isV .unit (.tuple (d :: ds)) = false := by
  cases ds <;> rfl
theorem isV_notup {k : Kd} {d : PyData} (hk : k ≠ .num) (hd : isTup d = false) : isV k d = false := by
  cases k <;> cases d <;> first | rfl | exact absurd rfl hk | cases hd
theorem isV_lst (a : Kd) (ds : List PyData) : isV (.lst a) (.tuple ds) = ds.all fun x => isV a x := by
  simp only [isV]
theorem isV_pair0 (a b : Kd) : isV (.pair a b) (.tuple []) = false := rfl
theorem isV_eith0 (a b : Kd) : isV (.eith a b) (.tuple []) = false := rfl
theorem isV_pairS {a b : Kd} {d : PyData} {ds : List PyData} (h : isStr d = false) : isV (.pair a b) (.tuple (d :: ds)) = false := by
  cases d <;> first | (cases h; done) | (rcases ds with _ | ⟨x, _ | ⟨y, _ | ⟨z, r⟩⟩⟩ <;> rfl)
theorem isV_eithS {a b : Kd} {d : PyData} {ds : List PyData} (h : isStr d = false) : isV (.eith a b) (.tuple (d :: ds)) = false := by
  cases d <;> first | (cases h; done) | (rcases ds with _ | ⟨x, _ | ⟨y, r⟩⟩ <;> rfl)
theorem isV_pairL {a b : Kd} {ds : List PyData} (h : ds.length ≠ 3) : isV (.pair a b) (.tuple ds) = false := by
  rcases ds with _ | ⟨d, _ | ⟨x, _ | ⟨y, _ | ⟨z, r⟩⟩⟩⟩
  · rfl
  · cases d <;> rfl
  · cases d <;> rfl
  · exact absurd rfl h
  · cases d <;> rfl
theorem isV_eithL {a b : Kd} {ds : List PyData} (h : ds.length ≠ 2) : isV (.eith a b) (.tuple ds) = false := by
  rcases ds with _ | ⟨d, _ | ⟨x, _ | ⟨y, r⟩⟩⟩
  · rfl
  · cases d <;> rfl
  · exact absurd rfl h
  · cases d <;> rfl
theorem notIn_all (ds : List PyData) (p : PyData → Bool) : (!inV (V.bl false) (ds.map fun z => V.bl (p z))) = ds.all p := by
  induction ds with
  | nil => rfl
  | cons d ds ih =>
    have e : inV (V.bl false) ((d :: ds).map fun z => V.bl (p z)) = (eqV (V.bl (p d)) (V.bl false) || inV (V.bl false) (ds.map fun z => V.bl (p z))) := rfl
    rw [e, Bool.not_or, ih, List.all_cons]
    cases p d <;> rfl
def spIsV (n : Nat) : Sp := fun vs H Q _ => ∃ (F : Addr → Prop) (kv tv : V) (k : Kd) (d : PyData) (m : Nat), vs = [kv, tv] ∧ Dt F H kv k.d ∧ Dt F H tv d ∧ k.dep ≤ n ∧ k.closed = true ∧ k.noFn = true ∧ Sd m 10000000 d ∧ ∀ H' : Hp, Same H H' → Q (.bl (isV k d)) H'
end KB
namespace KB
open PySem L2 PySem.Spec PyProof.Rows
theorem for_zipM {K : PySem.W.Frag} {a b : Addr} {xs ys : List V} {g : TG} {tb : TS} {D : Ends} {σ : L2.St} {H : Hp} (Pv : Nat → L2.St → Hp → Prop) (h0 : Pv 0 σ H) (hq : ∀ i σ H, Pv i σ H → SqT K H a xs ∧ SqT K H b ys)
    (hs : ∀ (i : Nat) (x y : V) (T : Addr) (σ : L2.St) (H : Hp), xs[i]? = some x → ys[i]? = some y → Pv i σ H → H T = none → g (.ref T) σ (upd H T (.tup [x, y])) fun σ2 H2 => tb { D with nx := Pv (i + 1), ct := Pv (i + 1), bk := D.nx } σ2 H2)
    (hd : ∀ i σ H, (xs.length ≤ i ∨ ys.length ≤ i) → i ≤ xs.length → i ≤ ys.length → Pv i σ H → D.nx σ H) : ∃ W : Nat → Nat → L2.St → Hp → Prop, (∃ m, W 0 m σ H) ∧ ∀ i m σ H, W i m σ H →
      ((RZ.ItzT K a b).stop i H ∧ D.nx σ H) ∨ ((RZ.ItzT K a b).go i H ∧ ∃ N : L2.St → Hp → Prop, (∀ σ' H', N σ' H' → ∃ m', m' < m ∧ W (i + 1) m' σ' H') ∧ ∀ v H', (RZ.ItzT K a b).yld i H v H' → g v σ H' fun σ2 H2 => tb { D with nx := N, ct := N, bk := D.nx } σ2 H2) := by
  refine ⟨fun i m σ H => m = xs.length - i ∧ (i ≤ xs.length ∧ i ≤ ys.length) ∧ Pv i σ H, ⟨xs.length, rfl, ⟨Nat.zero_le _, Nat.zero_le _⟩, h0⟩, ?_⟩
  rintro i m σ H ⟨rfl, ⟨hx, hy⟩, p⟩
  obtain ⟨qx, qy⟩ := hq i σ H p
  by_cases lx : i < xs.length
  · by_cases ly : i < ys.length
    · refine .inr ⟨⟨xs, ys, _, _, qx, qy, List.getElem?_eq_getElem lx, List.getElem?_eq_getElem ly⟩, Pv (i + 1), fun σ' H' p' => ⟨xs.length - (i + 1), by omega, rfl, ⟨lx, ly⟩, p'⟩, fun v H' z => ?_⟩
      obtain ⟨T, x', y', rfl, hT, rfl, f1, f2⟩ := z
      (exact hs i x' y' T σ H (f1 xs qx) (f2 ys qy) p hT)
    · have e : ys.length ≤ i := by omega
      exact .inl ⟨⟨xs, ys, qx, qy, .inr e⟩, hd i σ H (.inr e) hx hy p⟩
  · have e : xs.length ≤ i := by omega
    exact .inl ⟨⟨xs, ys, qx, qy, .inl e⟩, hd i σ H (.inl e) hx hy p⟩
def sg (i j : Int) : Int := (if j < i then 1 else 0) - (if i < j then 1 else 0)
theorem sg_dec (i j : Int) : sg i j = (if decide (j < i) = true then 1 else 0) - (if decide (i < j) = true then 1 else 0) := by
  unfold sg
  simp only [decide_eq_true_eq]
inductive Cm : Kd → PyData → PyData → Int → Prop
  | unit : Cm .unit (.tuple []) (.tuple []) 0
  | num (i j : Int) : Cm .num (.int i) (.int j) (sg i j)
  | pairN {a b : Kd} {x y x' y' : PyData} {r : Int} (h : Cm a x x' r) (n : r ≠ 0) : Cm (.pair a b) (.tuple [.str "pair", x, y]) (.tuple [.str "pair", x', y']) r
  | pairE {a b : Kd} {x y x' y' : PyData} {r : Int} (h : Cm a x x' 0) (h2 : Cm b y y' r) : Cm (.pair a b) (.tuple [.str "pair", x, y]) (.tuple [.str "pair", x', y']) r
  | left {a b : Kd} {x x' : PyData} {r : Int} (h : Cm a x x' r) : Cm (.eith a b) (.tuple [.str "left", x]) (.tuple [.str "left", x']) r
  | right {a b : Kd} {x x' : PyData} {r : Int} (h : Cm b x x' r) : Cm (.eith a b) (.tuple [.str "right", x]) (.tuple [.str "right", x']) r
  | leftRight {a b : Kd} {x x' : PyData} : Cm (.eith a b) (.tuple [.str "left", x]) (.tuple [.str "right", x']) (-1)
  | rightLeft {a b : Kd} {x x' : PyData} : Cm (.eith a b) (.tuple [.str "right", x]) (.tuple [.str "left", x']) 1
  | lstN {a : Kd} {xs ys : List PyData} {i : Nat} {x y : PyData} {r : Int} (hx : xs[i]? = some x) (hy : ys[i]? = some y) (pre : ∀ (j : Nat) (x' y' : PyData), j < i → xs[j]? = some x' → ys[j]? = some y' → Cm a x' y' 0) (h : Cm a x y r) (n : r ≠ 0) :
      Cm (.lst a) (.tuple xs) (.tuple ys) r
  | lstE {a : Kd} {xs ys : List PyData} (pre : ∀ (j : Nat) (x' y' : PyData), xs[j]? = some x' → ys[j]? = some y' → Cm a x' y' 0) : Cm (.lst a) (.tuple xs) (.tuple ys) (sg xs.length ys.length)
def spOrd (n : Nat) : Sp := fun vs H Q _ => ∃ (F : Addr → Prop) (kv ov tv : V) (k : Kd) (d e : PyData) (N : Nat), vs = [kv, ov, tv] ∧ Dt F H kv k.d ∧ Dt F H ov d ∧ Dt F H tv e ∧ k.dep ≤ n ∧ k.closed = true ∧ k.noFn = true ∧ VV N k d ∧ VV N k e ∧
  ∀ (r : Int) (H' : Hp), Cm k d e r → Same H H' → Q (.int r) H'
end KB
namespace KB
open PySem L2 PySem.Spec PyProof.Rows
structure KI (P : Program) (w : World) (K : PySem.W.Frag) (d : Addr) (kvs : List (L2.Key × V)) : Prop where
  low : (d == sysModules) = Bool.false
  ex : ∃ vs, KV kvs vs ∧ ∀ h : Heap, K.In h → h.DictOf (mixKind P w) d vs
section
variable {X : Cx} {d : Addr} {kvs : List (L2.Key × V)}
theorem op_notIn_ki (D : KI X.prog X.w X.K d kvs) : OpR X (compareOp .NotIn) (fun x y H Q => ∃ k : L2.Key, x = kV k ∧ y = .ref d ∧ Q (.bl (!(valV kvs k).isSome)) H) := by
  (intro pins s σ H x y v u Q I rx ry h)
  obtain ⟨k, rfl, rfl, q⟩ := h
  cases ry
  obtain ⟨vs, rel, dd⟩ := D.ex
  refine wpAny_notIn_of (kV_is rx) D.low (dd _ I.kIn).mapOf ?_
  rw [← (rel.val k).isSome_eq]
  exact ⟨.bl _, H, I.tok _, rfl, q⟩
theorem ix_ki (D : KI X.prog X.w X.K d kvs) : IxR X (fun x y H Q => ∃ (k : L2.Key) (r : V), x = .ref d ∧ y = kV k ∧ valV kvs k = some r ∧ Q r H) := by
  (intro value slice pins s σ H x y v u Q I rx ry h hs)
  obtain ⟨k, r, rfl, rfl, l, q⟩ := h
  obtain rfl : v = Value.ref d := rx
  obtain ⟨vs, rel, dd⟩ := D.ex
  obtain ⟨w', hw, rw'⟩ := RelO.some_of (v := r) (o := valueAt vs k) (by rw [← l]; exact rel.val k)
  have hm := (dd _ I.kIn).mapOf
  exact tail_any hm.typeIs PySem.F.slot_dict_getitem.lookup (wpAny_getItem_of (kV_is ry) hm hw ⟨r, H, I.tok _, rw', q⟩) hs
end
theorem pgT {X : Cx} {K : PySem.W.Frag} {es : List Expr} {k : Nat} {t : TGs} {n : Nat} {pos : Pos} (h : X.K = K) (hc : X.calm = true) (hg : PGs X es t)
    (hn : (assignEach es X.env).length = n := by rfl) (hst : (assignEach es X.env).findIdx? (·.1) = none := by rfl) : PG X (.Tuple es k pos) (gTup K n t) := by
  rw [← h]
  exact pg_tup hc hg hn hst
def txB : PyData → List Str → Bool
  | .str x, xs => xs.contains x
  | _, _ => false
theorem inV_str (x : Str) (xs : List Str) : inV (.str x) (xs.map V.str) = xs.contains x := by
  induction xs with
  | nil => rfl
  | cons y ys ih =>
    have e : inV (.str x) ((y :: ys).map V.str) = ((y == x) || inV (.str x) (ys.map V.str)) := rfl
    rw [e, ih, List.contains_cons, Bool.beq_comm]
theorem flat_strs (xs : List Str) : (xs.map V.str).all flatV = true := by
  induction xs with
  | nil => rfl
  | cons y ys ih => exact ih
def spTxt (K : PySem.W.Frag) : Sp := fun vs H Q _ => ∃ (F : Addr → Prop) (v : V) (t : Addr) (d : PyData) (xs : List Str), vs = [v, .ref t] ∧ Dt F H v d ∧ SqT K H t (xs.map V.str) ∧ Q (.bl (txB d xs)) H
end KB
namespace KB
open PySem L2 PySem.Spec PyProof.Rows
def Kp (S : List Addr) (H H' : Hp) : Prop := ∀ b o, b ∉ S → H b = some o → H' b = some o
abbrev Ot (S : List Addr) : Addr → Prop := fun a => a ∉ S
section
variable {S : List Addr} {H H1 H2 : Hp} {v : V} {d : PyData} {vs : List V} {ds : List PyData} {b p : Addr} {o : HO}
theorem Kp.refl (S : List Addr) (H : Hp) : Kp S H H := fun _ _ _ h => h
theorem Kp.trans (x : Kp S H H1) (y : Kp S H1 H2) : Kp S H H2 := fun b o n h => y b o n (x b o n h)
theorem Kp.same (x : Same H H1) : Kp S H H1 := fun b o _ h => x b o h
theorem Kp.put (h : b ∈ S) : Kp S H (upd H b o) := fun c u n e => by
  rw [upd_ne (fun z => n (by rw [z]; exact h))]
  exact e
theorem Kp.new (h : H p = none) : Kp S H (upd H p o) := Kp.same (Same.new h)
theorem Kp.grow (x : Kp S H H1) : Kp (p :: S) H H1 := fun b o n h => x b o (fun z => n (List.mem_cons_of_mem _ z)) h
theorem Kp.thin (x : Kp (p :: S) H H1) (h : H p = none) : Kp S H H1 := fun b o n e => x b o (fun z => (List.mem_cons.mp z).elim (fun z => by rw [z, h] at e; cases e) n) e
theorem Kp.toSame (x : Kp [] H H1) : Same H H1 := fun b o h => x b o (fun z => nomatch z) h
theorem Dt.kp (h : Dt (Ot S) H v d) (k : Kp S H H1) : Dt (Ot S) H1 v d := h.move fun a o f e => ⟨f, k a o f e⟩
theorem DtA.kp (h : DtA (Ot S) H vs ds) (k : Kp S H H1) : DtA (Ot S) H1 vs ds := h.move fun a o f e => ⟨f, k a o f e⟩
theorem Dt.wide (h : Dt (Ot S) H v d) (n : H p = none) : Dt (Ot (p :: S)) H v d := h.move fun a o f e => ⟨fun z => (List.mem_cons.mp z).elim (fun z => by rw [z, n] at e; cases e) f, e⟩
theorem DtA.wide (h : DtA (Ot S) H vs ds) (n : H p = none) : DtA (Ot (p :: S)) H vs ds := h.move fun a o f e => ⟨fun z => (List.mem_cons.mp z).elim (fun z => by rw [z, n] at e; cases e) f, e⟩
theorem Dt.less (h : Dt (Ot (p :: S)) H v d) : Dt (Ot S) H v d := h.move fun a o f e => ⟨fun z => f (List.mem_cons_of_mem _ z), e⟩
theorem DtA.less (h : DtA (Ot (p :: S)) H vs ds) : DtA (Ot S) H vs ds := h.move fun a o f e => ⟨fun z => f (List.mem_cons_of_mem _ z), e⟩
theorem Dt.any {F : Addr → Prop} (h : Dt F H v d) : Dt (Ot []) H v d := h.move fun a o f e => ⟨fun z => (by cases z), e⟩
theorem DtA.any {F : Addr → Prop} (h : DtA F H vs ds) : DtA (Ot []) H vs ds := h.move fun a o f e => ⟨fun z => (by cases z), e⟩
theorem ot_new (hS : ∀ a ∈ S, H a ≠ none) : ∀ p, H p = none → Ot S p := fun p np z => hS p z np
theorem DtA.snoc : ∀ {ds : List PyData} {vs : List V} {d : PyData}, DtA (Ot S) H vs (ds ++ [d]) → ∃ ws x, vs = ws ++ [x] ∧ DtA (Ot S) H ws ds ∧ Dt (Ot S) H x d
  | [], _, _, h => by
    obtain ⟨x, rfl, hx⟩ := DtA.one h
    exact ⟨[], x, rfl, .nil, hx⟩
  | e :: ds, _, _, h => by
    rw [List.cons_append] at h
    cases h with
    | cons h r =>
      obtain ⟨ws, x, rfl, r', hx⟩ := DtA.snoc r
      exact ⟨_ :: ws, x, rfl, .cons h r', hx⟩
end
def Kd.word : Kd → Str
  | num => "num"
  | unit => "unit"
  | var _ => "var"
  | lst _ => "list"
  | pair _ _ => "pair"
  | eith _ _ => "either"
  | fn _ _ => "fun"
def Kd.kids : Kd → List Kd
  | num => []
  | unit => []
  | var _ => []
  | lst a => [a]
  | pair a b => [a, b]
  | eith a b => [a, b]
  | fn a b => [a, b]
def Kd.kz : Kd → Nat
  | num => 1
  | unit => 1
  | var _ => 1
  | lst a => a.kz + 1
  | pair a b => a.kz + b.kz + 1
  | eith a b => a.kz + b.kz + 1
  | fn a b => a.kz + b.kz + 1
theorem Kd.d_eq : ∀ {k : Kd}, k.closed = true → k.d = .tuple (.str k.word :: k.kids.map Kd.d)
  | num, _ => rfl
  | unit, _ => rfl
  | var _, h => by cases h
  | lst a, _ => rfl
  | pair a b, _ => rfl
  | eith a b, _ => rfl
  | fn a b, _ => rfl
theorem Kd.not_var : ∀ {k : Kd}, k.closed = true → k.word ≠ "var"
  | num, _ => by show ("num" : Str) ≠ "var"; decide
  | unit, _ => by show ("unit" : Str) ≠ "var"; decide
  | var _, h => by cases h
  | lst a, _ => by show ("list" : Str) ≠ "var"; decide
  | pair a b, _ => by show ("pair" : Str) ≠ "var"; decide
  | eith a b, _ => by show ("either" : Str) ≠ "var"; decide
  | fn a b, _ => by show ("fun" : Str) ≠ "var"; decide
theorem Kd.not_fun : ∀ {k : Kd}, k.noFn = true → k.word ≠ "fun"
  | num, _ => by show ("num" : Str) ≠ "fun"; decide
  | unit, _ => by show ("unit" : Str) ≠ "fun"; decide
  | var _, _ => by show ("var" : Str) ≠ "fun"; decide
  | lst a, _ => by show ("list" : Str) ≠ "fun"; decide
  | pair a b, _ => by show ("pair" : Str) ≠ "fun"; decide
  | eith a b, _ => by show ("either" : Str) ≠ "fun"; decide
  | fn a b, h => by cases h
theorem Kd.kids_ok : ∀ {k : Kd}, k.closed = true → k.noFn = true → ∀ x ∈ k.kids, x.closed = true ∧ x.noFn = true ∧ x.dep + 1 ≤ k.dep
  | num, _, _ => fun x h => by cases h
  | unit, _, _ => fun x h => by cases h
  | var _, _, _ => fun x h => by cases h
  | lst a, c, n => fun x h => by
    rw [List.mem_singleton.mp h]
    exact ⟨c, n, Nat.le_refl _⟩
  | pair a b, c, n => fun x h => by
    obtain ⟨c1, c2⟩ := Bool.and_eq_true_iff.mp (show (a.closed && b.closed) = true from c)
    obtain ⟨n1, n2⟩ := Bool.and_eq_true_iff.mp (show (a.noFn && b.noFn) = true from n)
    have e : (Kd.pair a b).dep = max a.dep b.dep + 1 := rfl
    rcases List.mem_cons.mp h with h | h
    · rw [h]
      exact ⟨c1, n1, by omega⟩
    · rw [List.mem_singleton.mp h]
      exact ⟨c2, n2, by omega⟩
  | eith a b, c, n => fun x h => by
    obtain ⟨c1, c2⟩ := Bool.and_eq_true_iff.mp (show (a.closed && b.closed) = true from c)
    obtain ⟨n1, n2⟩ := Bool.and_eq_true_iff.mp (show (a.noFn && b.noFn) = true from n)
    have e : (Kd.eith a b).dep = max a.dep b.dep + 1 := rfl
    rcases List.mem_cons.mp h with h | h
    · rw [h]
      exact ⟨c1, n1, by omega⟩
    · rw [List.mem_singleton.mp h]
      exact ⟨c2, n2, by omega⟩
  | fn a b, c, n => by cases n
theorem Kd.kids_kz : ∀ k : Kd, (k.kids.map Kd.kz).sum + 1 = k.kz
  | num => rfl
  | unit => rfl
  | var _ => rfl
  | lst a => by simp [Kd.kids, Kd.kz]
  | pair a b => by simp [Kd.kids, Kd.kz]
  | eith a b => by simp [Kd.kids, Kd.kz]
  | fn a b => by simp [Kd.kids, Kd.kz]
theorem Kd.kids_len : ∀ k : Kd, k.kids.length ≤ 2
  | num => by decide
  | unit => by decide
  | var _ => Nat.zero_le _
  | lst a => by show 1 ≤ 2; decide
  | pair a b => Nat.le_refl 2
  | eith a b => Nat.le_refl 2
  | fn a b => Nat.le_refl 2
theorem Kd.dep_pos : ∀ k : Kd, 1 ≤ k.dep
  | num => Nat.le_refl 1
  | unit => Nat.le_refl 1
  | var _ => Nat.le_refl 1
  | lst a => Nat.le_add_left _ _
  | pair a b => Nat.le_add_left _ _
  | eith a b => Nat.le_add_left _ _
  | fn a b => Nat.le_add_left _ _
theorem Kd.kz_dep : ∀ k : Kd, k.kz + 1 ≤ 2 ^ k.dep
  | num => by decide
  | unit => by decide
  | var _ => by show 1 + 1 ≤ 2 ^ 1; decide
  | lst a => by
    have h := Kd.kz_dep a
    have e : 2 ^ (Kd.lst a).dep = 2 * 2 ^ a.dep := by rw [Nat.mul_comm]; exact Nat.pow_succ _ _
    have z : (Kd.lst a).kz = a.kz + 1 := rfl
    omega
  | pair a b => by
    have h1 := Nat.le_trans (Kd.kz_dep a) (Nat.pow_le_pow_right (by decide) (Nat.le_max_left a.dep b.dep))
    have h2 := Nat.le_trans (Kd.kz_dep b) (Nat.pow_le_pow_right (by decide) (Nat.le_max_right a.dep b.dep))
    have e : 2 ^ (Kd.pair a b).dep = 2 * 2 ^ (max a.dep b.dep) := by rw [Nat.mul_comm]; exact Nat.pow_succ _ _
    have z : (Kd.pair a b).kz = a.kz + b.kz + 1 := rfl
    omega
  | eith a b => by
    have h1 := Nat.le_trans (Kd.kz_dep a) (Nat.pow_le_pow_right (by decide) (Nat.le_max_left a.dep b.dep))
    have h2 := Nat.le_trans (Kd.kz_dep b) (Nat.pow_le_pow_right (by decide) (Nat.le_max_right a.dep b.dep))
    have e : 2 ^ (Kd.eith a b).dep = 2 * 2 ^ (max a.dep b.dep) := by rw [Nat.mul_comm]; exact Nat.pow_succ _ _
    have z : (Kd.eith a b).kz = a.kz + b.kz + 1 := rfl
    omega
  | fn a b => by
    have h1 := Nat.le_trans (Kd.kz_dep a) (Nat.pow_le_pow_right (by decide) (Nat.le_max_left a.dep b.dep))
    have h2 := Nat.le_trans (Kd.kz_dep b) (Nat.pow_le_pow_right (by decide) (Nat.le_max_right a.dep b.dep))
    have e : 2 ^ (Kd.fn a b).dep = 2 * 2 ^ (max a.dep b.dep) := by rw [Nat.mul_comm]; exact Nat.pow_succ _ _
    have z : (Kd.fn a b).kz = a.kz + b.kz + 1 := rfl
    omega
def Has (P : Program) (w : World) (K : PySem.W.Frag) (mg : Str → Option Value) (base : Heap) (x : Str) (ps : List Str) (k : Nat) (sp : Sp) : Prop :=
  ∃ (f : Addr) (fd : FuncData), PySem.W.keepIn K (.ref f) = true ∧ mg x = some (.ref f) ∧ Binds K fd ps [] ∧ FnOk P w K mg base CX0 k f fd ps sp
end KB
namespace KB
open PySem L2 PySem.Spec PyProof.Rows
structure Pf (P : Program) (w : World) (K : PySem.W.Frag) (mg : Str → Option Value) (dW t1 t2 t3 aV : Addr) (tk : Nat) : Prop where
  gW : mg "WORDS_BY_LENGTH" = some (.ref dW)
  D : KI P w K dW [(.inl 1, .ref t1), (.inl 2, .ref t2), (.inl 3, .ref t3)]
  s1 : ∀ H, SqT K H t1 ((["unit", "num"] : List Str).map V.str)
  s2 : ∀ H, SqT K H t2 ((["var", "list"] : List Str).map V.str)
  s3 : ∀ H, SqT K H t3 ((["pair", "either", "fun"] : List Str).map V.str)
  gV : mg "VARIABLES" = some (.ref aV)
  gD : mg "DEEPEST" = some (.int 100 tk)
def spHfK : Sp := fun vs H Q _ => ∃ (F : Addr → Prop) (v : V) (k : Kd), vs = [v] ∧ Dt F H v k.d ∧ k.closed = true ∧ Q (.bl true) H
def lvD (p : Kd × Int) : PyData := .tuple [p.1.d, .int p.2]
def spPwl : Sp := fun vs H Q _ => ∃ (F : Addr → Prop) (v : V) (k : Kd), vs = [v] ∧ Dt F H v k.d ∧ k.closed = true ∧ k.noFn = true ∧ k.dep ≤ 100 ∧ k.kz ≤ 10000 ∧
  ∀ (G : Addr) (gs : List V) (ps : List (Kd × Int)) (H' : Hp), Same H H' → H' G = some (.lst gs) → DtA (Ot []) H' gs (ps.map lvD) → (∀ p ∈ ps, p.1.closed = true ∧ p.1.noFn = true) → ps.length ≤ 10000 → Q (.ref G) H'
theorem kids_lv (ks : List Kd) (l : Int) (i : Nat) (k : Kd) (h : ks[i]? = some k) : (ks.take (i + 1)).map (fun k => lvD (k, l)) = (ks.take i).map (fun k => lvD (k, l)) ++ [lvD (k, l)] := by
  rw [List.take_add_one, h, List.map_append]
  rfl
theorem slC {K : PySem.W.Frag} {F : Addr → Prop} {σ : L2.St} {H : Hp} {u : Nat} {vv : V} {ds : List PyData} {Q : VK} (i : Nat) (hF : ∀ p, H p = none → F p) (su : σ[u]? = some (some vv)) (hv : Dt F H vv (.tuple ds)) (q : ∀ v H', Same H H' → Dt F H' v (.tuple (ds.drop i)) → Q v H') :
    tSl (rSlA K) (tVar u) (tPart (tC (V.int (i : Int)))) tNoPart σ H Q := ⟨_, su, _, rfl, dropD hF hv q⟩
end KB
namespace KB
open PySem L2 PySem.Spec PyProof.Rows
def spKw : Sp := fun vs H Q _ => ∃ (F : Addr → Prop) (v : V) (k : Kd) (wd : Str), vs = [v, .str wd] ∧ Dt F H v k.d ∧ k.closed = true ∧ k.noFn = true ∧ k.dep ≤ 100 ∧ k.kz ≤ 10000 ∧ (wd = "fun" ∨ wd = "var") ∧ ∀ H', Same H H' → Q (.bl true) H'
def spDk : Sp := fun vs H Q _ => ∃ (F : Addr → Prop) (v : V) (k : Kd), vs = [v] ∧ Dt F H v k.d ∧ k.closed = true ∧ k.noFn = true ∧ k.dep ≤ 100 ∧ k.kz ≤ 10000 ∧ ∀ H', Same H H' → Q (.bl true) H'
def spCk : Sp := fun vs H Q _ => ∃ (F : Addr → Prop) (v : V) (k : Kd), vs = [v] ∧ Dt F H v k.d ∧ k.closed = true ∧ k.noFn = true ∧ k.dep ≤ 100 ∧ k.kz ≤ 10000 ∧ ∀ H', Same H H' → Q .non H'
end KB
namespace KB
open PySem L2 PySem.Spec PyProof.Rows
def isNum : PyData → Bool
  | .int _ => true
  | _ => false
def hasF : Kd → PyData → Bool
  | .num, d => isNum d
  | .unit, .tuple ds => decide (ds.length = 0)
  | .pair _ _, .tuple (d :: ds) => decide (ds.length = 2) && txB d ["pair"]
  | .eith _ _, .tuple (d :: ds) => decide (ds.length = 1) && txB d ["left", "right"]
  | .lst _, .tuple _ => true
  | _, _ => false
def pbs : Kd → PyData → List (Kd × PyData)
  | .pair a b, .tuple [_, x, y] => [(a, x), (b, y)]
  | .eith a b, .tuple [.str p, x] => [(if p = "left" then a else b, x)]
  | .lst a, .tuple xs => xs.map fun x => (a, x)
  | _, _ => []
def pvD (p : Kd × PyData) : PyData := .tuple [p.1.d, p.2]
theorem hasF_notup {k : Kd} {d : PyData} (hk : k ≠ .num) (hd : isTup d = false) : hasF k d = false := by
  cases k <;> cases d <;> first | rfl | exact absurd rfl hk | cases hd
theorem contains_two (p x y : Str) : ([x, y] : List Str).contains p = true ↔ p = x ∨ p = y := by simp
theorem contains_one (p x : Str) : ([x] : List Str).contains p = true ↔ p = x := by simp
theorem isV_eq : ∀ (k : Kd) (d : PyData), k.closed = true → k.noFn = true → isV k d = (hasF k d && (pbs k d).all fun p => isV p.1 p.2)
  | .num, d, _, _ => by cases d <;> rfl
  | .unit, .tuple [], _, _ => rfl
  | .unit, .tuple (d :: ds), _, _ => by rw [isV_unit]; rfl
  | .unit, .none, _, _ => rfl
  | .unit, .bool _, _, _ => rfl
  | .unit, .int _, _, _ => rfl
  | .unit, .str _, _, _ => rfl
  | .unit, .list _, _, _ => rfl
  | .unit, .dict _, _, _ => rfl
  | .lst a, .tuple xs, _, _ => by
    rw [isV_lst]
    show _ = (true && (xs.map fun x => (a, x)).all fun p => isV p.1 p.2)
    rw [List.all_map, Bool.true_and]
    rfl
  | .lst a, .none, _, _ => rfl
  | .lst a, .bool _, _, _ => rfl
  | .lst a, .int _, _, _ => rfl
  | .lst a, .str _, _, _ => rfl
  | .lst a, .list _, _, _ => rfl
  | .lst a, .dict _, _, _ => rfl
  | .pair a b, .tuple ds, _, _ => by
    by_cases h : ds.length = 3
    · obtain ⟨d, x, y, rfl⟩ : ∃ d x y, ds = [d, x, y] := by
        rcases ds with _ | ⟨d, _ | ⟨x, _ | ⟨y, _ | ⟨z, r⟩⟩⟩⟩ <;> simp at h
        exact ⟨d, x, y, rfl⟩
      cases d with
      | str p =>
        show (decide (p = "pair") && (isV a x && isV b y)) = ((true && ([("pair" : Str)].contains p)) && (isV a x && (isV b y && true)))
        rw [Bool.and_true, Bool.true_and]
        congr 1
        by_cases e : p = "pair"
        · rw [decide_eq_true e, (contains_one _ _).mpr e]
        · rw [decide_eq_false e, Bool.eq_false_iff.mpr fun z => e ((contains_one _ _).mp z)]
      | _ => rfl
    · rw [isV_pairL h]
      rcases ds with _ | ⟨d, ds⟩
      · rfl
      · have : decide (ds.length = 2) = false := decide_eq_false fun z => h (by rw [List.length_cons, z])
        show false = ((decide (ds.length = 2) && txB d ["pair"]) && _)
        rw [this, Bool.false_and, Bool.false_and]
  | .pair a b, .none, _, _ => rfl
  | .pair a b, .bool _, _, _ => rfl
  | .pair a b, .int _, _, _ => rfl
  | .pair a b, .str _, _, _ => rfl
  | .pair a b, .list _, _, _ => rfl
  | .pair a b, .dict _, _, _ => rfl
  | .eith a b, .tuple ds, _, _ => by
    by_cases h : ds.length = 2
    · obtain ⟨d, x, rfl⟩ : ∃ d x, ds = [d, x] := by
        rcases ds with _ | ⟨d, _ | ⟨x, _ | ⟨y, r⟩⟩⟩ <;> simp at h
        exact ⟨d, x, rfl⟩
      cases d with
      | str p =>
        show (if p = "left" then isV a x else decide (p = "right") && isV b x) = ((true && ([("left" : Str), "right"].contains p)) && (isV (if p = "left" then a else b) x && true))
        rw [Bool.and_true, Bool.true_and]
        by_cases e : p = "left"
        · rw [if_pos e, if_pos e, (contains_two _ _ _).mpr (.inl e), Bool.true_and]
        · rw [if_neg e, if_neg e]
          congr 1
          by_cases e2 : p = "right"
          · rw [decide_eq_true e2, (contains_two _ _ _).mpr (.inr e2)]
          · rw [decide_eq_false e2, Bool.eq_false_iff.mpr fun z => ((contains_two _ _ _).mp z).elim e e2]
      | _ => rfl
    · rw [isV_eithL h]
      rcases ds with _ | ⟨d, ds⟩
      · rfl
      · have : decide (ds.length = 1) = false := decide_eq_false fun z => h (by rw [List.length_cons, z])
        show false = ((decide (ds.length = 1) && txB d ["left", "right"]) && _)
        rw [this, Bool.false_and, Bool.false_and]
  | .eith a b, .none, _, _ => rfl
  | .eith a b, .bool _, _, _ => rfl
  | .eith a b, .int _, _, _ => rfl
  | .eith a b, .str _, _, _ => rfl
  | .eith a b, .list _, _, _ => rfl
  | .eith a b, .dict _, _, _ => rfl
  | .var x, d, h, _ => by cases h
  | .fn a b, d, _, h => by cases h
def wz (ps : List (Kd × PyData)) : Nat := (ps.map fun p => sz p.2 + 1).sum
theorem wz_app (a b : List (Kd × PyData)) : wz (a ++ b) = wz a + wz b := by
  unfold wz
  rw [List.map_append, List.sum_append]
theorem wz_len : ∀ ps : List (Kd × PyData), ps.length ≤ wz ps
  | [] => Nat.zero_le _
  | p :: ps => by
    have e : wz (p :: ps) = (sz p.2 + 1) + wz ps := rfl
    have := wz_len ps
    rw [List.length_cons]
    omega
theorem wz_all (a : Kd) : ∀ xs : List PyData, wz (xs.map fun x => (a, x)) ≤ szA xs
  | [] => Nat.zero_le _
  | x :: xs => by
    have e : wz ((x :: xs).map fun x => (a, x)) = (sz x + 1) + wz (xs.map fun x => (a, x)) := rfl
    have := wz_all a xs
    rw [e, szA]
    omega
theorem wz_pbs : ∀ (k : Kd) (d : PyData), wz (pbs k d) ≤ sz d
  | .lst a, .tuple xs => by
    have := wz_all a xs
    rw [sz]
    show wz (xs.map fun x => (a, x)) ≤ _
    omega
  | .pair a b, .tuple [d, x, y] => by
    have e : wz (pbs (.pair a b) (.tuple [d, x, y])) = (sz x + 1) + ((sz y + 1) + 0) := rfl
    rw [e, sz, szA, szA, szA, szA]
    omega
  | .eith a b, .tuple [.str p, x] => by
    have e : wz (pbs (.eith a b) (.tuple [.str p, x])) = (sz x + 1) + 0 := rfl
    rw [e, sz, szA, szA, szA]
    omega
  | .num, d => Nat.zero_le _
  | .unit, d => Nat.zero_le _
  | .var _, d => Nat.zero_le _
  | .fn _ _, d => Nat.zero_le _
  | .lst a, .none => Nat.zero_le _
  | .lst a, .bool _ => Nat.zero_le _
  | .lst a, .int _ => Nat.zero_le _
  | .lst a, .str _ => Nat.zero_le _
  | .lst a, .list _ => Nat.zero_le _
  | .lst a, .dict _ => Nat.zero_le _
  | .pair a b, d => by
    by_cases h : pbs (.pair a b) d = []
    · rw [h]
      exact Nat.zero_le _
    · cases d with
      | tuple ds =>
        rcases ds with _ | ⟨d, _ | ⟨x, _ | ⟨y, _ | ⟨z, r⟩⟩⟩⟩ <;> first | exact absurd rfl h | skip
        have e : wz (pbs (.pair a b) (.tuple [d, x, y])) = (sz x + 1) + ((sz y + 1) + 0) := rfl
        rw [e, sz, szA, szA, szA, szA]
        omega
      | _ => exact absurd rfl h
  | .eith a b, d => by
    by_cases h : pbs (.eith a b) d = []
    · rw [h]
      exact Nat.zero_le _
    · cases d with
      | tuple ds =>
        rcases ds with _ | ⟨d, _ | ⟨x, _ | ⟨y, r⟩⟩⟩ <;> first | exact absurd rfl h | skip
        · cases d <;> exact absurd rfl h
        · cases d <;> first | exact absurd rfl h | skip
          rename_i p
          have e : wz (pbs (.eith a b) (.tuple [.str p, x])) = (sz x + 1) + 0 := rfl
          rw [e, sz, szA, szA, szA]
          omega
        · cases d <;> exact absurd rfl h
      | _ => exact absurd rfl h
theorem pbs_ok {k : Kd} {d : PyData} (hc : k.closed = true) (hn : k.noFn = true) : ∀ p ∈ pbs k d, p.1.closed = true ∧ p.1.noFn = true := by
  have kk := Kd.kids_ok hc hn
  intro p hp
  have hk : p.1 ∈ k.kids := by
    unfold pbs at hp
    split at hp
    · rcases List.mem_cons.mp hp with e | e
      · rw [e]; exact List.mem_cons_self
      · rw [List.mem_singleton.mp e]; exact List.mem_cons_of_mem _ List.mem_cons_self
    · (rw [List.mem_singleton.mp hp])
      show (if _ then _ else _) ∈ _
      split
      · exact List.mem_cons_self
      · exact List.mem_cons_of_mem _ List.mem_cons_self
    · obtain ⟨x, _, rfl⟩ := List.mem_map.mp hp
      exact List.mem_cons_self
    · cases hp
  exact ⟨(kk _ hk).1, (kk _ hk).2.1⟩
def spNb : Sp := fun vs H Q _ => ∃ (F : Addr → Prop) (v : V) (d : PyData), vs = [v] ∧ Dt F H v d ∧ Q (.bl (isNum d)) H
def spHv : Sp := fun vs H Q _ => ∃ (F : Addr → Prop) (kv v : V) (k : Kd) (d : PyData), vs = [kv, v] ∧ Dt F H kv k.d ∧ k.closed = true ∧ k.noFn = true ∧ Dt F H v d ∧ ∀ H', Same H H' → Q (.bl (hasF k d)) H'
def spPb : Sp := fun vs H Q _ => ∃ (F : Addr → Prop) (kv v : V) (k : Kd) (d : PyData) (n : Nat), vs = [kv, v] ∧ (∀ p, H p = none → F p) ∧ Dt F H kv k.d ∧ k.closed = true ∧ k.noFn = true ∧ Dt F H v d ∧ hasF k d = true ∧ sz d ≤ 10000000 ∧
  ∀ (L : Addr) (ls : List V) (H' : Hp), Same H H' → H L = none → H' L = some (.lst ls) → DtA F H' ls ((pbs k d).map pvD) → Q (.ref L) H'
def spSu : Sp := fun vs H Q _ => ∃ (F : Addr → Prop) (kv v : V) (k : Kd) (d : PyData), vs = [kv, v] ∧ Dt F H kv k.d ∧ k.closed = true ∧ k.noFn = true ∧ Dt F H v d ∧ sz d ≤ 10000000 ∧ ∀ H', Same H H' → Q (.bl (isV k d)) H'
end KB
namespace KB
open PySem L2 PySem.Spec PyProof.Rows
theorem hasF_pair {a b : Kd} {d : PyData} (h : hasF (.pair a b) d = true) : ∃ x y, d = .tuple [.str "pair", x, y] := by
  cases d with
  | tuple ds =>
    rcases ds with _ | ⟨d, _ | ⟨x, _ | ⟨y, _ | ⟨z, r⟩⟩⟩⟩ <;> first | (simp [hasF] at h; done) | skip
    have h2 : txB d ["pair"] = true := (Bool.and_eq_true_iff.mp (show (decide ([x, y].length = 2) && txB d ["pair"]) = true from h)).2
    cases d with
    | str p => exact ⟨x, y, by rw [(contains_one p "pair").mp h2]⟩
    | _ => cases h2
  | _ => cases h
theorem hasF_eith {a b : Kd} {d : PyData} (h : hasF (.eith a b) d = true) : ∃ p x, d = .tuple [.str p, x] ∧ (p = "left" ∨ p = "right") := by
  cases d with
  | tuple ds =>
    rcases ds with _ | ⟨d, _ | ⟨x, _ | ⟨y, r⟩⟩⟩ <;> first | (simp [hasF] at h; done) | skip
    have h2 : txB d ["left", "right"] = true := (Bool.and_eq_true_iff.mp (show (decide ([x].length = 1) && txB d ["left", "right"]) = true from h)).2
    cases d with
    | str p => exact ⟨p, x, rfl, (contains_two p _ _).mp h2⟩
    | _ => cases h2
  | _ => cases h
theorem hasF_lst {a : Kd} {d : PyData} (h : hasF (.lst a) d = true) : ∃ xs, d = .tuple xs := by
  cases d with
  | tuple ds => exact ⟨ds, rfl⟩
  | _ => cases h
def spIv : Sp := fun vs H Q _ => ∃ (F : Addr → Prop) (kv v : V) (k : Kd) (d : PyData), vs = [kv, v] ∧ Dt F H kv k.d ∧ k.closed = true ∧ k.noFn = true ∧ k.dep ≤ 100 ∧ k.kz ≤ 10000 ∧ Dt F H v d ∧ sz d ≤ 10000000 ∧ ∀ H', Same H H' → Q (.bl (isV k d)) H'
theorem pv_row (a : Kd) (xs : List PyData) (i : Nat) (x : PyData) (h : xs[i]? = some x) : (xs.take (i + 1)).map (fun x => pvD (a, x)) = (xs.take i).map (fun x => pvD (a, x)) ++ [pvD (a, x)] := by
  rw [List.take_add_one, h, List.map_append]
  rfl
end KB
namespace KB
open PySem L2 PySem.Spec PyProof.Rows
theorem first_yes {e r : Nat → Bool} {fin : Bool} : ∀ (n s : Nat), (∀ j, s ≤ j → j < s + n → e j = true) → SeqAt.firstLt e r fin (List.range' s n) = fin
  | 0, _, _ => rfl
  | n + 1, s, h => by
    rw [List.range'_succ, SeqAt.firstLt_yes (h s (Nat.le_refl _) (by omega))]
    exact first_yes n (s + 1) fun j h1 h2 => h j (by omega) (by omega)
theorem first_no {e r : Nat → Bool} {fin : Bool} {i : Nat} (hi : e i = false) : ∀ (n s : Nat), s ≤ i → i < s + n → (∀ j, s ≤ j → j < i → e j = true) → SeqAt.firstLt e r fin (List.range' s n) = r i
  | 0, s, h1, h2, _ => absurd h2 (by omega)
  | n + 1, s, h1, h2, h => by
    rw [List.range'_succ]
    by_cases z : s = i
    · subst z
      exact SeqAt.firstLt_no hi
    · rw [SeqAt.firstLt_yes (h s (Nat.le_refl _) (by omega))]
      exact first_no hi n (s + 1) (by omega) (by omega) fun j h3 h4 => h j (by omega) h4
section
open PySem.SeqAt PySem.MeetsSeq PySem.MeetsSeq2 PySem.MeetsSeq3
structure From (e : Nat → Bool) (xs ys : Array Value) (rest : List (Value × Value)) (i : Nat) : Prop where
  rest : rest = (xs.toList.zip ys.toList).drop i
  pre : ∀ j, j < i → e j = true
theorem tup_lt_meets (a b : Addr) (xs ys : Array Value) (n1 n2 : Nat) (d1 d2 : Option Addr) (l1 l2 : Array (Option Value)) (e r : Nat → Bool) :
    Meets (Builtin.«tuple.__lt__» ⟨[.ref a, .ref b], []⟩)
      (fun A R s =>
        (s.heap.get? a = some { cls := .type "tuple", dict := d1, data := .seq xs n1, slots := l1 } ∧
          s.heap.get? b = some { cls := .type "tuple", dict := d2, data := .seq ys n2, slots := l2 }) ∧
        ((∀ j (h1 : j < xs.size) (h2 : j < ys.size), EqAt A.in1 s xs[j] ys[j] (e j)) ∧
          (∀ j (h1 : j < xs.size) (h2 : j < ys.size), (∀ i, i < j → e i = true) → e j = false → RcLt A.in1 s xs[j] ys[j] (r j))) ∧
        R (.ok (.ret (.bool (firstLt e r (decide (xs.size < ys.size)) (List.range (min xs.size ys.size)))))) s) :=
  .of_wp fun prog w A R s ⟨⟨ha, hb⟩, ⟨hq, hr⟩, h⟩ => by
    (obtain ⟨hp, g, d, tk, os⟩ := s)
    have sub := AutoSeq1.sub_tuple_tuple
    have lz : (xs.toList.zip ys.toList).length = min xs.size ys.size := by simp
    have rg : ∀ i, i < min xs.size ys.size → (List.range (min xs.size ys.size)).drop i = i :: (List.range (min xs.size ys.size)).drop (i + 1) := fun i hi => by
      simp [List.drop_eq_getElem_cons, hi]
    wp_walk using PySem.AutoSeq1.wpAny_loadPart' ha, PySem.AutoSeq1.wpAny_loadPart' hb, wpAny_forIn_list _ (fun rest c z => (c.1 = none ∧ z = ⟨hp, g, d, tk, os⟩) ∧ ∃ i, From e xs ys rest i ∧
      R (.ok (.ret (.bool (firstLt e r (decide (xs.size < ys.size)) ((List.range (min xs.size ys.size)).drop i))))) ⟨hp, g, d, tk, os⟩) _
    case h => exact ⟨⟨rfl, rfl⟩, 0, ⟨rfl, fun j hj => absurd hj (Nat.not_lt_zero j)⟩, by simpa using h⟩
    case fin =>
      rintro ⟨c1, c2⟩ z ⟨⟨hc, rfl⟩, i, F, hR⟩
      simp only at hc
      subst hc
      have out : min xs.size ys.size ≤ i := by
        by_cases lt : i < min xs.size ys.size
        · have := F.rest
          rw [List.drop_eq_getElem_cons (lz ▸ lt)] at this
          cases this
        · exact Nat.le_of_not_lt lt
      rw [List.drop_of_length_le (by simpa using out)] at hR
      wp_walk
      (exact ⟨_, rfl, by simpa [Builtin.Tuple.tupleCompareSizes, firstLt] using hR⟩)
    case turn =>
      rintro ⟨y, x⟩ rest c z ⟨⟨hc, rfl⟩, i, F, hR⟩
      have im : i < min xs.size ys.size := by
        by_cases lt : i < min xs.size ys.size
        · exact lt
        · have := F.rest
          rw [List.drop_of_length_le (by rw [lz]; exact Nat.le_of_not_lt lt)] at this
          cases this
      have i1 : i < xs.size := Nat.lt_of_lt_of_le im (Nat.min_le_left _ _)
      have i2 : i < ys.size := Nat.lt_of_lt_of_le im (Nat.min_le_right _ _)
      have fr := F.rest
      rw [List.drop_eq_getElem_cons (lz ▸ im)] at fr
      injection fr with e1 e2
      obtain rfl : y = xs[i] := by simpa using congrArg Prod.fst e1
      obtain rfl : x = ys[i] := by simpa using congrArg Prod.snd e1
      rw [rg i im] at hR
      refine wpAny_bind (hq i i1 i2 prog w _ _ ?_)
      by_cases q : e i = true
      · rw [q]
        rw [firstLt_yes q] at hR
        wp_walk
        refine ⟨⟨rfl, rfl⟩, i + 1, ⟨e2, fun j hj => ?_⟩, hR⟩
        by_cases z : j = i
        · rw [z]; exact q
        · exact F.pre j (by omega)
      · have q' : e i = false := Bool.eq_false_iff.mpr q
        rw [q']
        rw [firstLt_no q'] at hR
        have less := hr i i1 i2 F.pre q' prog w
        wp_walk using less
        exact ⟨_, rfl, hR⟩
theorem tup_lt {A : Around} {s : Shared} {a b : Addr} {xs ys : Array Value} {e r : Nat → Bool} (ha : s.heap.IsTuple a xs) (hb : s.heap.IsTuple b ys) (hu : A.units < cLine)
    (hq : ∀ j (h1 : j < xs.size) (h2 : j < ys.size), EqAt A.in1 s xs[j] ys[j] (e j)) (hr : ∀ j (h1 : j < xs.size) (h2 : j < ys.size), (∀ i, i < j → e i = true) → e j = false → RcLt A.in1 s xs[j] ys[j] (r j)) :
    RcLt A s (.ref a) (.ref b) (firstLt e r (decide (xs.size < ys.size)) (List.range (min xs.size ys.size))) := fun prog w E Q h => by
  obtain ⟨⟨c1, d1, t1, l1⟩, h1, k1, n1, m1⟩ := id ha
  obtain ⟨⟨c2, d2, t2, l2⟩, h2, k2, n2, m2⟩ := id hb
  simp only at k1 m1 k2 m2
  subst k1 m1 k2 m2
  have last : Value.bool (firstLt e r (decide (xs.size < ys.size)) (List.range (min xs.size ys.size))) ≠ Value.notImplemented ∧ Q (.bool (firstLt e r (decide (xs.size < ys.size)) (List.range (min xs.size ys.size)))) s :=
    ⟨(fun x => nomatch x), h⟩
  exact richCompare_meets_room (op := .Lt) ⟨_, h1, rfl⟩ ⟨_, h2, rfl⟩ F.slot_tuple_lt F.entry_tuple_lt (F.args_tuple_lt_2 _ _) (tup_lt_meets a b xs ys n1 n2 d1 d2 l1 l2 e r) ⟨⟨h1, h2⟩, ⟨hq, hr⟩, last⟩ hu
end
open PySem.SeqAt (room_here room_in pairEq eqvAll_eq)
theorem readsAll_get {h : Heap} : ∀ {ds : List PyData} {vs : List Value} {as : List Addr} {j : Nat} (h1 : j < vs.length) {d : PyData}, ReadsAll h vs ds as → ds[j]? = some d → ∃ bs, Reads h vs[j] d bs
  | d :: ds, _, _, 0, h1, d', r, e => by
    obtain rfl : d = d' := by simpa using e
    cases r with
    | cons r _ => exact ⟨_, r⟩
  | d :: ds, _, _, j + 1, h1, d', r, e => by
    cases r with
    | cons _ r => exact readsAll_get (j := j) (Nat.lt_of_succ_lt_succ h1) r (by simpa using e)
theorem depth_mem : ∀ {ds : List PyData} {d : PyData}, d ∈ ds → d.depth ≤ PyData.depthAll ds
  | e :: ds, d, h => by
    simp only [PyData.depthAll]
    rcases List.mem_cons.mp h with h | h
    · rw [h]; exact Nat.le_max_left _ _
    · exact Nat.le_trans (depth_mem h) (Nat.le_max_right _ _)
section
variable {A : Around} {s : Shared} {a b : Value} {as bs : List Addr} {xs ys : List PyData}
theorem lt_first (ra : Reads s.heap a (.tuple xs) as) (rb : Reads s.heap b (.tuple ys) bs) (pa : PyData.plainAll xs = true) (pb : PyData.plainAll ys = true) (hu : A.units + min (PyData.depth (.tuple xs)) (PyData.depth (.tuple ys)) < cLine)
    {i : Nat} {x y : PyData} (hx : xs[i]? = some x) (hy : ys[i]? = some y) (pre : ∀ j, j < i → pairEq xs ys j = true) (ne : PyData.eqv x y = false) {k : Bool}
    (hl : ∀ v w av aw, Reads s.heap v x av → Reads s.heap w y aw → A.in1.units + min x.depth y.depth < cLine → SeqAt.RcLt A.in1 s v w k) : SeqAt.RcLt A s a b k := by
  cases ra with
  | @tuple l o vs n _ _ h1 h2 h3 h4 =>
    cases rb with
    | @tuple l' o' ws n' _ _ k1 k2 k3 k4 =>
      have e1 : vs.size = xs.length := by simpa using SeqAt.ReadsAll.length _ _ _ h4
      have e2 : ws.size = ys.length := by simpa using SeqAt.ReadsAll.length _ _ _ k4
      have i1 := (List.getElem?_eq_some_iff.mp hx).1
      have i2 := (List.getElem?_eq_some_iff.mp hy).1
      (simp only [PyData.depth] at hu)
      have ei : pairEq xs ys i = false := by
        show PyData.eqv (xs.getD i .none) (ys.getD i .none) = false
        rw [List.getD_eq_getElem?_getD, List.getD_eq_getElem?_getD, hx, hy]
        exact ne
      have main := tup_lt (A := A) (s := s) (e := pairEq xs ys) (r := fun _ => k) ⟨_, h1, h2, _, h3⟩ ⟨_, k1, k2, _, k3⟩ (room_here hu) (fun j j1 j2 => ?_) (fun j j1 j2 hp hf => ?_)
      · rw [List.range_eq_range', first_no ei (min vs.size ws.size) 0 (Nat.zero_le _) (by rw [e1, e2]; omega) (fun j _ hj => pre j hj)] at main
        exact main
      · have := SeqAt.eqAt_plainAll xs ys A.in1 s vs.toList ws.toList _ _ h4 k4 pa pb (room_in hu) j (by simpa using j1) (by simpa using j2)
        simpa using this
      · have ji : j = i := by
          rcases Nat.lt_trichotomy j i with z | z | z
          · rw [pre j z] at hf; cases hf
          · exact z
          · rw [hp i z] at ei; cases ei
        subst ji
        obtain ⟨av, r1⟩ := readsAll_get (j := j) (by simpa using j1) h4 hx
        obtain ⟨aw, r2⟩ := readsAll_get (j := j) (by simpa using j2) k4 hy
        have d1 := depth_mem (List.mem_of_getElem? hx)
        have d2 := depth_mem (List.mem_of_getElem? hy)
        have := hl _ _ av aw r1 r2 (by
          have := room_in hu
          show A.units + 1 + _ < _
          omega)
        simpa using this
theorem lt_ends (ra : Reads s.heap a (.tuple xs) as) (rb : Reads s.heap b (.tuple ys) bs) (pa : PyData.plainAll xs = true) (pb : PyData.plainAll ys = true) (hu : A.units + min (PyData.depth (.tuple xs)) (PyData.depth (.tuple ys)) < cLine)
    (pre : ∀ j, j < min xs.length ys.length → pairEq xs ys j = true) : SeqAt.RcLt A s a b (decide (xs.length < ys.length)) := by
  cases ra with
  | @tuple l o vs n _ _ h1 h2 h3 h4 =>
    cases rb with
    | @tuple l' o' ws n' _ _ k1 k2 k3 k4 =>
      have e1 : vs.size = xs.length := by simpa using SeqAt.ReadsAll.length _ _ _ h4
      have e2 : ws.size = ys.length := by simpa using SeqAt.ReadsAll.length _ _ _ k4
      (simp only [PyData.depth] at hu)
      have main := tup_lt (A := A) (s := s) (e := pairEq xs ys) (r := fun _ => true) ⟨_, h1, h2, _, h3⟩ ⟨_, k1, k2, _, k3⟩ (room_here hu) (fun j j1 j2 => ?_) (fun j j1 j2 hp hf => ?_)
      · rw [List.range_eq_range', first_yes (min vs.size ws.size) 0 (fun j _ hj => pre j (by rw [← e1, ← e2]; omega)), e1, e2] at main
        exact main
      · have := SeqAt.eqAt_plainAll xs ys A.in1 s vs.toList ws.toList _ _ h4 k4 pa pb (room_in hu) j (by simpa using j1) (by simpa using j2)
        simpa using this
      · rw [pre j (by rw [← e1, ← e2]; omega)] at hf
        cases hf
end
theorem sg_zero (i j : Int) : decide (sg i j = 0) = (i == j) := by
  unfold sg
  rw [Bool.eq_iff_iff]
  simp only [decide_eq_true_eq, beq_iff_eq]
  constructor
  · intro h
    split at h <;> split at h <;> omega
  · intro h
    subst h
    rw [if_neg (by omega)]
    rfl
theorem sg_neg (i j : Int) : decide (sg i j < 0) = decide (i < j) := by
  unfold sg
  rw [Bool.eq_iff_iff]
  simp only [decide_eq_true_eq]
  constructor
  · intro h
    split at h <;> split at h <;> omega
  · intro h
    rw [if_pos h, if_neg (by omega)]
    decide
theorem pair_at {xs ys : List PyData} {j : Nat} {x y : PyData} (hx : xs[j]? = some x) (hy : ys[j]? = some y) : pairEq xs ys j = PyData.eqv x y := by
  show PyData.eqv (xs.getD j .none) (ys.getD j .none) = _
  rw [List.getD_eq_getElem?_getD, List.getD_eq_getElem?_getD, hx, hy]
  rfl
theorem cm_eqv {k : Kd} {d e : PyData} {r : Int} (h : Cm k d e r) : PyData.eqv d e = decide (r = 0) := by
  induction h with
  | unit => rfl
  | num i j =>
    rw [sg_zero]
    simp only [PyData.eqv]
  | pairN h n ih =>
    rw [decide_eq_false n] at ih ⊢
    simp only [PyData.eqv, PyData.eqvAll, ih, Bool.false_and, Bool.and_false]
  | pairE h h2 ih ih2 =>
    rw [decide_eq_true rfl] at ih
    simp only [PyData.eqv, PyData.eqvAll, ih, ih2, Bool.true_and, Bool.and_true, beq_self_eq_true]
  | left h ih => simp only [PyData.eqv, PyData.eqvAll, ih, Bool.and_true, beq_self_eq_true, Bool.true_and]
  | right h ih => simp only [PyData.eqv, PyData.eqvAll, ih, Bool.and_true, beq_self_eq_true, Bool.true_and]
  | leftRight =>
    (simp only [PyData.eqv, PyData.eqvAll])
    rw [show (("left" : Str) == "right") = false by decide, Bool.false_and]
    rfl
  | rightLeft =>
    (simp only [PyData.eqv, PyData.eqvAll])
    rw [show (("right" : Str) == "left") = false by decide, Bool.false_and]
    rfl
  | @lstN a xs ys i x y r hx hy pre h n ihp ih =>
    rw [decide_eq_false n] at ih ⊢
    show PyData.eqvAll xs ys = false
    rw [← eqvAll_eq, Bool.and_eq_false_iff]
    left
    rw [List.all_eq_false]
    have i1 := (List.getElem?_eq_some_iff.mp hx).1
    have i2 := (List.getElem?_eq_some_iff.mp hy).1
    exact ⟨i, List.mem_range.mpr (by omega), by rw [pair_at hx hy, ih]; decide⟩
  | @lstE a xs ys pre ih =>
    show PyData.eqvAll xs ys = _
    rw [← eqvAll_eq, sg_zero]
    have all : (List.range (min xs.length ys.length)).all (pairEq xs ys) = true := by
      rw [List.all_eq_true]
      intro j hj
      have lt := List.mem_range.mp hj
      have l1 : j < xs.length := by omega
      have l2 : j < ys.length := by omega
      rw [pair_at (List.getElem?_eq_getElem l1) (List.getElem?_eq_getElem l2), ih j _ _ (List.getElem?_eq_getElem l1) (List.getElem?_eq_getElem l2)]
      rfl
    rw [all, Bool.true_and]
    rw [Bool.eq_iff_iff]
    simp only [beq_iff_eq]
    omega
theorem plain_all {xs : List PyData} (h : PyData.plainAll xs = true) : ∀ {x}, x ∈ xs → x.plain = true := by
  induction xs with
  | nil => intro x hx; cases hx
  | cons y ys ih =>
    simp only [PyData.plainAll, Bool.and_eq_true] at h
    intro x hx
    rcases List.mem_cons.mp hx with z | z
    · rw [z]; exact h.1
    · exact ih h.2 z
theorem cm_lt {k : Kd} {d e : PyData} {r : Int} (h : Cm k d e r) : ∀ {A : Around} {s : Shared} {a b : Value} {as bs : List Addr}, Reads s.heap a d as → Reads s.heap b e bs → r ≠ 0 → d.plain = true → e.plain = true → A.units + min d.depth e.depth < cLine → SeqAt.RcLt A s a b (decide (r < 0)) := by
  induction h with
  | unit => intro A s a b as bs _ _ n; exact absurd rfl n
  | num i j =>
    intro A s a b as bs ra rb n _ _ _
    cases ra
    cases rb
    rw [sg_neg]
    intro prog w E Q hq
    exact HT.rcLt_int A s i _ j _ prog w E Q hq
  | @pairN ka kb x y x' y' r h n ih =>
    intro A s a b as bs ra rb n pa pb hu
    have e0 := cm_eqv h
    rw [decide_eq_false n] at e0
    have pa' := pa
    have pb' := pb
    simp only [PyData.plain] at pa' pb'
    refine lt_first ra rb pa' pb' hu (i := 1) rfl rfl (fun j hj => ?_) e0 fun v w av aw r1 r2 hu2 => ih r1 r2 n (plain_all pa' (by simp)) (plain_all pb' (by simp)) hu2
    obtain rfl : j = 0 := by omega
    rw [pair_at rfl rfl]
    simp only [PyData.eqv, beq_self_eq_true]
  | @pairE ka kb x y x' y' r h h2 ih ih2 =>
    intro A s a b as bs ra rb n pa pb hu
    have e0 := cm_eqv h2
    rw [decide_eq_false n] at e0
    have e1 := cm_eqv h
    have pa' := pa
    have pb' := pb
    simp only [PyData.plain] at pa' pb'
    refine lt_first ra rb pa' pb' hu (i := 2) rfl rfl (fun j hj => ?_) e0 fun v w av aw r1 r2 hu2 => ih2 r1 r2 n (plain_all pa' (by simp)) (plain_all pb' (by simp)) hu2
    rcases (show j = 0 ∨ j = 1 by omega) with rfl | rfl
    · rw [pair_at rfl rfl]
      simp only [PyData.eqv, beq_self_eq_true]
    · rw [pair_at rfl rfl]
      exact e1
  | @left ka kb x x' r h ih =>
    intro A s a b as bs ra rb n pa pb hu
    have e0 := cm_eqv h
    rw [decide_eq_false n] at e0
    have pa' := pa
    have pb' := pb
    simp only [PyData.plain] at pa' pb'
    refine lt_first ra rb pa' pb' hu (i := 1) rfl rfl (fun j hj => ?_) e0 fun v w av aw r1 r2 hu2 => ih r1 r2 n (plain_all pa' (by simp)) (plain_all pb' (by simp)) hu2
    obtain rfl : j = 0 := by omega
    rw [pair_at rfl rfl]
    simp only [PyData.eqv, beq_self_eq_true]
  | @right ka kb x x' r h ih =>
    intro A s a b as bs ra rb n pa pb hu
    have e0 := cm_eqv h
    rw [decide_eq_false n] at e0
    have pa' := pa
    have pb' := pb
    simp only [PyData.plain] at pa' pb'
    refine lt_first ra rb pa' pb' hu (i := 1) rfl rfl (fun j hj => ?_) e0 fun v w av aw r1 r2 hu2 => ih r1 r2 n (plain_all pa' (by simp)) (plain_all pb' (by simp)) hu2
    obtain rfl : j = 0 := by omega
    rw [pair_at rfl rfl]
    simp only [PyData.eqv, beq_self_eq_true]
  | leftRight =>
    intro A s a b as bs ra rb n pa pb hu
    have pa' := pa
    have pb' := pb
    simp only [PyData.plain] at pa' pb'
    refine lt_first ra rb pa' pb' hu (i := 0) rfl rfl (fun j hj => absurd hj (Nat.not_lt_zero j)) (by simp only [PyData.eqv]; decide) fun v w av aw r1 r2 hu2 => ?_
    cases r1
    cases r2
    intro prog w E Q hq
    refine DT.rcLt_str _ s _ _ _ _ prog w E Q ?_
    have : decide ((("left" : Str)).cps.toList < (("right" : Str)).cps.toList) = decide ((-1 : Int) < 0) := by decide +kernel
    rw [this]
    exact hq
  | rightLeft =>
    intro A s a b as bs ra rb n pa pb hu
    have pa' := pa
    have pb' := pb
    simp only [PyData.plain] at pa' pb'
    refine lt_first ra rb pa' pb' hu (i := 0) rfl rfl (fun j hj => absurd hj (Nat.not_lt_zero j)) (by simp only [PyData.eqv]; decide) fun v w av aw r1 r2 hu2 => ?_
    cases r1
    cases r2
    intro prog w E Q hq
    refine DT.rcLt_str _ s _ _ _ _ prog w E Q ?_
    have : decide ((("right" : Str)).cps.toList < (("left" : Str)).cps.toList) = decide ((1 : Int) < 0) := by decide +kernel
    rw [this]
    exact hq
  | @lstN ka xs ys i x y r hx hy pre h n ihp ih =>
    intro A s a b as bs ra rb n pa pb hu
    have e0 := cm_eqv h
    rw [decide_eq_false n] at e0
    have pa' := pa
    have pb' := pb
    simp only [PyData.plain] at pa' pb'
    refine lt_first ra rb pa' pb' hu hx hy (fun j hj => ?_) e0 fun v w av aw r1 r2 hu2 => ih r1 r2 n (plain_all pa' (List.mem_of_getElem? hx)) (plain_all pb' (List.mem_of_getElem? hy)) hu2
    have l1 := (List.getElem?_eq_some_iff.mp hx).1
    have l2 := (List.getElem?_eq_some_iff.mp hy).1
    have g1 : j < xs.length := by omega
    have g2 : j < ys.length := by omega
    rw [pair_at (List.getElem?_eq_getElem g1) (List.getElem?_eq_getElem g2)]
    exact cm_eqv (pre j _ _ hj (List.getElem?_eq_getElem g1) (List.getElem?_eq_getElem g2))
  | @lstE ka xs ys pre ih =>
    intro A s a b as bs ra rb n pa pb hu
    have pa' := pa
    have pb' := pb
    simp only [PyData.plain] at pa' pb'
    have main := lt_ends ra rb pa' pb' hu fun j hj => by
      have g1 : j < xs.length := by omega
      have g2 : j < ys.length := by omega
      rw [pair_at (List.getElem?_eq_getElem g1) (List.getElem?_eq_getElem g2)]
      exact cm_eqv (pre j _ _ (List.getElem?_eq_getElem g1) (List.getElem?_eq_getElem g2))
    rw [sg_neg]
    have e : decide ((xs.length : Int) < (ys.length : Int)) = decide (xs.length < ys.length) := by
      rw [Bool.eq_iff_iff]
      simp only [decide_eq_true_eq]
      omega
    rw [e]
    exact main
end KB
namespace KB
open PySem L2 PySem.Spec PyProof.Rows
theorem plainAll_of : ∀ {xs : List PyData}, (∀ x ∈ xs, x.plain = true) → PyData.plainAll xs = true
  | [], _ => by simp only [PyData.plainAll]
  | x :: xs, h => by
    simp only [PyData.plainAll, Bool.and_eq_true]
    exact ⟨h x List.mem_cons_self, plainAll_of fun y hy => h y (List.mem_cons_of_mem _ hy)⟩
theorem vv_plain {N : Nat} {k : Kd} {d : PyData} (h : VV N k d) : d.plain = true := by
  induction h with
  | num i _ => simp only [PyData.plain]
  | unit => simp only [PyData.plain, PyData.plainAll]
  | lst hl h ih =>
    simp only [PyData.plain]
    exact plainAll_of ih
  | pair hx hy ihx ihy => simp only [PyData.plain, PyData.plainAll, ihx, ihy, Bool.and_self]
  | left hx ih => simp only [PyData.plain, PyData.plainAll, ih, Bool.and_self]
  | right hx ih => simp only [PyData.plain, PyData.plainAll, ih, Bool.and_self]
theorem depthAll_le {n : Nat} : ∀ {xs : List PyData}, (∀ x ∈ xs, x.depth ≤ n) → PyData.depthAll xs ≤ n
  | [], _ => by simp only [PyData.depthAll]; exact Nat.zero_le _
  | x :: xs, h => by
    simp only [PyData.depthAll]
    exact Nat.max_le.mpr ⟨h x List.mem_cons_self, depthAll_le fun y hy => h y (List.mem_cons_of_mem _ hy)⟩
theorem vv_depth {N : Nat} {k : Kd} {d : PyData} (h : VV N k d) : d.depth ≤ k.dep := by
  induction h with
  | num i _ => simp only [PyData.depth]; exact Nat.zero_le _
  | unit => simp only [PyData.depth, PyData.depthAll]; exact Nat.le_refl 1
  | @lst a xs hl h ih =>
    simp only [PyData.depth]
    exact Nat.succ_le_succ (depthAll_le ih)
  | @pair a b x y hx hy ihx ihy =>
    have e : (Kd.pair a b).dep = max a.dep b.dep + 1 := rfl
    (simp only [PyData.depth, PyData.depthAll])
    omega
  | @left a b x hx ih =>
    have e : (Kd.eith a b).dep = max a.dep b.dep + 1 := rfl
    (simp only [PyData.depth, PyData.depthAll])
    omega
  | @right a b x hx ih =>
    have e : (Kd.eith a b).dep = max a.dep b.dep + 1 := rfl
    (simp only [PyData.depth, PyData.depthAll])
    omega
theorem int_long {i : Int} {c : Nat} (hc : c ≤ 10000) (h : i.natAbs ≤ bg + c) : sz (.int i) ≤ 412 := by
  have b : i.natAbs < 10 ^ 411 := Nat.lt_of_le_of_lt (Nat.le_trans h (Nat.add_le_add_left hc _)) (by unfold bg; decide +kernel)
  have e := int_text_length_le10 (k := 411) (by decide) b
  rw [sz]
  show (PyData.int i).shown.length ≤ 412
  rw [PyData.shown_int]
  show (Str.ofString (toString i)).length ≤ 412
  rw [PySem.ofString_length]
  exact e
theorem int_shows {i : Int} {c : Nat} (hc : c ≤ 10000) (h : i.natAbs ≤ bg + c) : (PyData.int i).showable = true := by
  have b : i.natAbs < 2 ^ 1400 := Nat.lt_of_le_of_lt (Nat.le_trans h (Nat.add_le_add_left hc _)) (by unfold bg; decide +kernel)
  (simp only [PyData.showable, decide_eq_true_eq])
  have := PySem.Flt.log2_lt_of (k := 1400) (by decide) b
  omega
def BZ (M : Nat) : Nat → Nat
  | 0 => 420
  | n + 1 => (BZ M n + 2) * M + 20
theorem BZ_ge (M : Nat) (h : 4 ≤ M) : ∀ n, 420 ≤ BZ M n
  | 0 => Nat.le_refl _
  | n + 1 => by
    have := BZ_ge M h n
    unfold BZ
    have : (BZ M n + 2) * 1 ≤ (BZ M n + 2) * M := Nat.mul_le_mul_left _ (by omega)
    omega
theorem BZ_mono {M : Nat} (h : 4 ≤ M) : ∀ {a b : Nat}, a ≤ b → BZ M a ≤ BZ M b := by
  intro a b ab
  induction ab with
  | refl => exact Nat.le_refl _
  | @step b _ ih =>
    show BZ M a ≤ (BZ M b + 2) * M + 20
    have : (BZ M b + 2) * 1 ≤ (BZ M b + 2) * M := Nat.mul_le_mul_left _ (by omega)
    omega
theorem szA_le {L : Nat} : ∀ {xs : List PyData}, (∀ x ∈ xs, sz x ≤ L) → szA xs ≤ (L + 2) * xs.length
  | [], _ => by rw [szA]; exact Nat.zero_le _
  | x :: xs, h => by
    have h1 := h x List.mem_cons_self
    have h2 := szA_le fun y hy => h y (List.mem_cons_of_mem (a := y) x hy)
    rw [szA, List.length_cons, Nat.mul_add]
    omega
theorem sz_word (x : Str) (h : (PyData.str x).shown.length ≤ 10) : sz (.str x) ≤ 10 := by rw [sz]; exact h
theorem vv_sz {N M : Nat} (hN : 10 * N ≤ 10000) (h4 : 4 ≤ M) (hM : N ≤ M) {k : Kd} {d : PyData} (h : VV N k d) : sz d ≤ BZ M (k.dep - 1) := by
  induction h with
  | num i hi => exact Nat.le_trans (int_long hN hi) (Nat.le_trans (by decide) (BZ_ge M h4 _))
  | unit => exact Nat.le_trans (by decide) (BZ_ge M h4 _)
  | @lst a xs hl h ih =>
    have p := Kd.dep_pos a
    have e : BZ M ((Kd.lst a).dep - 1) = (BZ M (a.dep - 1) + 2) * M + 20 := by
      rw [show (Kd.lst a).dep - 1 = (a.dep - 1) + 1 by show a.dep + 1 - 1 = _; omega]
      rfl
    have h1 := szA_le ih
    have h2 : (BZ M (a.dep - 1) + 2) * xs.length ≤ (BZ M (a.dep - 1) + 2) * M := Nat.mul_le_mul_left _ (Nat.le_trans hl hM)
    rw [e, sz]
    omega
  | @pair a b x y hx hy ihx ihy =>
    have p := Kd.dep_pos a
    have e : BZ M ((Kd.pair a b).dep - 1) = (BZ M (max a.dep b.dep - 1) + 2) * M + 20 := by
      rw [show (Kd.pair a b).dep - 1 = (max a.dep b.dep - 1) + 1 by show max a.dep b.dep + 1 - 1 = _; omega]
      rfl
    have w := sz_word "pair" (by decide +kernel)
    have m1 := BZ_mono h4 (show a.dep - 1 ≤ max a.dep b.dep - 1 by omega)
    have m2 := BZ_mono h4 (show b.dep - 1 ≤ max a.dep b.dep - 1 by omega)
    have h2 : (BZ M (max a.dep b.dep - 1) + 2) * 4 ≤ (BZ M (max a.dep b.dep - 1) + 2) * M := Nat.mul_le_mul_left _ h4
    rw [e, sz, szA, szA, szA, szA]
    omega
  | @left a b x hx ih =>
    have p := Kd.dep_pos a
    have e : BZ M ((Kd.eith a b).dep - 1) = (BZ M (max a.dep b.dep - 1) + 2) * M + 20 := by
      rw [show (Kd.eith a b).dep - 1 = (max a.dep b.dep - 1) + 1 by show max a.dep b.dep + 1 - 1 = _; omega]
      rfl
    have w := sz_word "left" (by decide +kernel)
    have m1 := BZ_mono h4 (show a.dep - 1 ≤ max a.dep b.dep - 1 by omega)
    have h2 : (BZ M (max a.dep b.dep - 1) + 2) * 4 ≤ (BZ M (max a.dep b.dep - 1) + 2) * M := Nat.mul_le_mul_left _ h4
    rw [e, sz, szA, szA, szA]
    omega
  | @right a b x hx ih =>
    have p := Kd.dep_pos a
    have e : BZ M ((Kd.eith a b).dep - 1) = (BZ M (max a.dep b.dep - 1) + 2) * M + 20 := by
      rw [show (Kd.eith a b).dep - 1 = (max a.dep b.dep - 1) + 1 by show max a.dep b.dep + 1 - 1 = _; omega]
      rfl
    have w := sz_word "right" (by decide +kernel)
    have m1 := BZ_mono h4 (show b.dep - 1 ≤ max a.dep b.dep - 1 by omega)
    have h2 : (BZ M (max a.dep b.dep - 1) + 2) * 4 ≤ (BZ M (max a.dep b.dep - 1) + 2) * M := Nat.mul_le_mul_left _ h4
    rw [e, sz, szA, szA, szA]
    omega
mutual
def IB (B : Nat) : PyData → Prop
  | .int i => i.natAbs ≤ B
  | .tuple ds => IBA B ds
  | .list ds => IBA B ds
  | .none => True
  | .bool _ => True
  | .str _ => True
  | .dict _ => True
def IBA (B : Nat) : List PyData → Prop
  | [] => True
  | d :: ds => IB B d ∧ IBA B ds
end
theorem iba_iff {B : Nat} : ∀ {ds : List PyData}, IBA B ds ↔ ∀ d ∈ ds, IB B d
  | [] => by simp [IBA]
  | d :: ds => by rw [IBA, iba_iff (ds := ds)]; simp
theorem ib_tup {B : Nat} {ds : List PyData} : IB B (.tuple ds) ↔ ∀ d ∈ ds, IB B d := by rw [IB]; exact iba_iff
theorem ib_lst {B : Nat} {ds : List PyData} : IB B (.list ds) ↔ ∀ d ∈ ds, IB B d := by rw [IB]; exact iba_iff
mutual
theorem IB.mono {B C : Nat} (h : B ≤ C) : ∀ {d : PyData}, IB B d → IB C d
  | .int i, q => by rw [IB] at *; omega
  | .tuple ds, q => by rw [IB] at *; exact IBA.mono h q
  | .list ds, q => by rw [IB] at *; exact IBA.mono h q
  | .none, _ => by rw [IB]; exact True.intro
  | .bool _, _ => by rw [IB]; exact True.intro
  | .str _, _ => by rw [IB]; exact True.intro
  | .dict _, _ => by rw [IB]; exact True.intro
theorem IBA.mono {B C : Nat} (h : B ≤ C) : ∀ {ds : List PyData}, IBA B ds → IBA C ds
  | [], _ => by rw [IBA]; exact True.intro
  | d :: ds, q => by rw [IBA] at *; exact ⟨IB.mono h q.1, IBA.mono h q.2⟩
end
theorem vv_ib {N : Nat} {k : Kd} {d : PyData} (h : VV N k d) : IB (bg + 10 * N) d := by
  induction h with
  | num i hi => rw [IB]; exact hi
  | unit => rw [IB, IBA]; exact True.intro
  | lst hl h ih => exact ib_tup.mpr ih
  | pair hx hy ihx ihy =>
    refine ib_tup.mpr fun d hd => ?_
    simp only [List.mem_cons, List.not_mem_nil, or_false] at hd
    rcases hd with rfl | rfl | rfl
    · rw [IB]; exact True.intro
    · exact ihx
    · exact ihy
  | left hx ih =>
    refine ib_tup.mpr fun d hd => ?_
    simp only [List.mem_cons, List.not_mem_nil, or_false] at hd
    rcases hd with rfl | rfl
    · rw [IB]; exact True.intro
    · exact ih
  | right hx ih =>
    refine ib_tup.mpr fun d hd => ?_
    simp only [List.mem_cons, List.not_mem_nil, or_false] at hd
    rcases hd with rfl | rfl
    · rw [IB]; exact True.intro
    · exact ih
def lexF (c : PyData → PyData → Int) : List PyData → List PyData → Int
  | x :: xs, y :: ys => if c x y = 0 then lexF c xs ys else c x y
  | xs, ys => sg xs.length ys.length
def cmpF : Kd → PyData → PyData → Int
  | .num, .int i, .int j => sg i j
  | .pair a b, .tuple [_, x, y], .tuple [_, x', y'] => if cmpF a x x' = 0 then cmpF b y y' else cmpF a x x'
  | .eith a b, .tuple [.str p, x], .tuple [.str q, x'] => if p = q then (if p = "left" then cmpF a x x' else cmpF b x x') else if p = "left" then -1 else 1
  | .lst a, .tuple xs, .tuple ys => lexF (cmpF a) xs ys
  | _, _, _ => 0
theorem sg_succ (a b : Nat) : sg ((a + 1 : Nat) : Int) ((b + 1 : Nat) : Int) = sg a b := by
  unfold sg
  congr 1
  · by_cases h : b < a
    · rw [if_pos (by omega), if_pos (by omega)]
    · rw [if_neg (by omega), if_neg (by omega)]
  · by_cases h : a < b
    · rw [if_pos (by omega), if_pos (by omega)]
    · rw [if_neg (by omega), if_neg (by omega)]
theorem lex_at (c : PyData → PyData → Int) : ∀ (i : Nat) (xs ys : List PyData) (x y : PyData), xs[i]? = some x → ys[i]? = some y → (∀ j x' y', j < i → xs[j]? = some x' → ys[j]? = some y' → c x' y' = 0) → c x y ≠ 0 → lexF c xs ys = c x y
  | 0, x :: xs, y :: ys, _, _, h1, h2, _, n => by
    cases h1
    cases h2
    rw [lexF, if_neg n]
  | i + 1, x :: xs, y :: ys, u, v, h1, h2, pre, n => by
    rw [lexF, if_pos (pre 0 x y (Nat.succ_pos _) rfl rfl)]
    exact lex_at c i xs ys u v h1 h2 (fun j x' y' hj e1 e2 => pre (j + 1) x' y' (Nat.succ_lt_succ hj) e1 e2) n
  | 0, [], _, _, _, h1, _, _, _ => by cases h1
  | 0, _ :: _, [], _, _, _, h2, _, _ => by cases h2
  | i + 1, [], _, _, _, h1, _, _, _ => by cases h1
  | i + 1, _ :: _, [], _, _, _, h2, _, _ => by cases h2
theorem lex_end (c : PyData → PyData → Int) : ∀ (xs ys : List PyData), (∀ (j : Nat) (x' y' : PyData), xs[j]? = some x' → ys[j]? = some y' → c x' y' = 0) → lexF c xs ys = sg xs.length ys.length
  | x :: xs, y :: ys, pre => by
    rw [lexF, if_pos (pre 0 x y rfl rfl), lex_end c xs ys fun j x' y' e1 e2 => pre (j + 1) x' y' e1 e2, List.length_cons, List.length_cons, sg_succ]
  | [], ys, _ => by rw [lexF]; intro x xs y ys e; cases e
  | x :: xs, [], _ => by rw [lexF]; intro x xs y ys _ e; cases e
theorem cm_fun {k : Kd} {d e : PyData} {r : Int} (h : Cm k d e r) : r = cmpF k d e := by
  induction h with
  | unit => rfl
  | num i j => rfl
  | @pairN a b x y x' y' r h n ih =>
    show r = if cmpF a x x' = 0 then cmpF b y y' else cmpF a x x'
    rw [← ih, if_neg n]
  | @pairE a b x y x' y' r h h2 ih ih2 =>
    show r = if cmpF a x x' = 0 then cmpF b y y' else cmpF a x x'
    rw [← ih, if_pos rfl]
    exact ih2
  | @left a b x x' r h ih =>
    show r = if ("left" : Str) = "left" then (if ("left" : Str) = "left" then cmpF a x x' else cmpF b x x') else _
    rw [if_pos rfl, if_pos rfl]
    exact ih
  | @right a b x x' r h ih =>
    show r = if ("right" : Str) = "right" then (if ("right" : Str) = "left" then cmpF a x x' else cmpF b x x') else _
    rw [if_pos rfl, if_neg (by decide)]
    exact ih
  | @leftRight a b x x' =>
    show -1 = if ("left" : Str) = "right" then _ else if ("left" : Str) = "left" then (-1 : Int) else 1
    (rw [if_neg (by decide), if_pos rfl])
  | @rightLeft a b x x' =>
    show 1 = if ("right" : Str) = "left" then _ else if ("right" : Str) = "left" then (-1 : Int) else 1
    rw [if_neg (by decide), if_neg (by decide)]
  | @lstN a xs ys i x y r hx hy pre h n ihp ih =>
    show r = lexF (cmpF a) xs ys
    rw [lex_at (cmpF a) i xs ys x y hx hy (fun j x' y' hj e1 e2 => (ihp j x' y' hj e1 e2).symm) (by rw [← ih]; exact n)]
    exact ih
  | @lstE a xs ys pre ih =>
    show _ = lexF (cmpF a) xs ys
    rw [lex_end (cmpF a) xs ys fun j x' y' e1 e2 => (ih j x' y' e1 e2).symm]
theorem cm_one {k : Kd} {d e : PyData} {r r' : Int} (h : Cm k d e r) (h' : Cm k d e r') : r = r' := (cm_fun h).trans (cm_fun h').symm
theorem cm_range {k : Kd} {d e : PyData} {r : Int} (h : Cm k d e r) : r = -1 ∨ r = 0 ∨ r = 1 := by
  have s3 : ∀ i j : Int, sg i j = -1 ∨ sg i j = 0 ∨ sg i j = 1 := fun i j => by
    unfold sg
    split <;> split <;> first | omega | (right; right; rfl) | (left; rfl) | (right; left; rfl)
  induction h with
  | unit => exact .inr (.inl rfl)
  | num i j => exact s3 i j
  | pairN h n ih => exact ih
  | pairE h h2 ih ih2 => exact ih2
  | left h ih => exact ih
  | right h ih => exact ih
  | leftRight => exact .inl rfl
  | rightLeft => exact .inr (.inr rfl)
  | lstN hx hy pre h n ihp ih => exact ih
  | lstE pre ih => exact s3 _ _
theorem cm_ex {M N : Nat} {k : Kd} {d : PyData} (h : VV M k d) : ∀ {e : PyData}, VV N k e → ∃ r, Cm k d e r := by
  induction h with
  | num i hi =>
    intro e h2
    cases h2 with
    | num j hj => exact ⟨_, .num i j⟩
  | unit =>
    intro e h2
    cases h2 with
    | unit => exact ⟨_, .unit⟩
  | pair hx hy ihx ihy =>
    intro e h2
    cases h2 with
    | pair hx' hy' =>
      obtain ⟨r, c⟩ := ihx hx'
      by_cases z : r = 0
      · subst z
        obtain ⟨r2, c2⟩ := ihy hy'
        exact ⟨r2, .pairE c c2⟩
      · exact ⟨r, .pairN c z⟩
  | left hx ih =>
    intro e h2
    cases h2 with
    | left hx' =>
      obtain ⟨r, c⟩ := ih hx'
      exact ⟨r, .left c⟩
    | right hx' => exact ⟨_, .leftRight⟩
  | right hx ih =>
    intro e h2
    cases h2 with
    | left hx' => exact ⟨_, .rightLeft⟩
    | right hx' =>
      obtain ⟨r, c⟩ := ih hx'
      exact ⟨r, .right c⟩
  | @lst a xs hl h ih =>
    intro e h2
    cases h2 with
    | @lst _ ys hl' h' =>
      clear hl hl' h
      induction xs generalizing ys with
      | nil => exact ⟨_, .lstE fun j x' y' e1 _ => by cases e1⟩
      | cons x xs ihx =>
        cases ys with
        | nil => exact ⟨_, .lstE fun j x' y' _ e2 => by cases e2⟩
        | cons y ys =>
          obtain ⟨r, c⟩ := ih x List.mem_cons_self (h' y List.mem_cons_self)
          by_cases z : r = 0
          · subst z
            obtain ⟨r2, c2⟩ := ihx (fun u hu => ih u (List.mem_cons_of_mem _ hu)) (fun u hu => h' u (List.mem_cons_of_mem _ hu))
            have sh : ∀ (P : Nat → Prop) (j x' y'), (∀ j x' y', P j → xs[j]? = some x' → ys[j]? = some y' → Cm a x' y' 0) → (j = 0 ∨ ∃ i, j = i + 1 ∧ P i) → (x :: xs)[j]? = some x' → (y :: ys)[j]? = some y' → Cm a x' y' 0 := fun P j x' y' hp hj e1 e2 => by
              rcases hj with rfl | ⟨i, rfl, hi⟩
              · cases e1
                cases e2
                exact c
              · exact hp i x' y' hi e1 e2
            cases c2 with
            | @lstN _ _ _ i u v _ hx hy pre hc n => exact ⟨r2, .lstN (i := i + 1) hx hy (fun j x' y' hj e1 e2 => sh (· < i) j x' y' (fun j x' y' hj e1 e2 => pre j x' y' hj e1 e2) (by rcases j with _ | j; exact .inl rfl; exact .inr ⟨j, rfl, by omega⟩) e1 e2) hc n⟩
            | lstE pre => exact ⟨_, .lstE fun j x' y' e1 e2 => sh (fun _ => True) j x' y' (fun j x' y' _ e1 e2 => pre j x' y' e1 e2) (by rcases j with _ | j; exact .inl rfl; exact .inr ⟨j, rfl, trivial⟩) e1 e2⟩
          · exact ⟨r, .lstN (i := 0) rfl rfl (fun j _ _ hj => absurd hj (Nat.not_lt_zero j)) c z⟩
end KB
namespace KB
open PySem L2 PySem.Spec PyProof.Rows
section
variable {X : Cx} {n : Nat}
theorem op_eqVV (hS : SysIn X.K) (hr : Room n X.A) : OpR X (compareOp .Eq) (fun x y H Q => ∃ (F : Addr → Prop) (d e : PyData), Dt F H x d ∧ Dt F H y e ∧ d.plain = true ∧ e.plain = true ∧ d.depth ≤ 190 ∧ Q (.bl (PyData.eqv d e)) H) := by
  (intro pins s σ H x y v u Q I rx ry h)
  obtain ⟨F, d, e, hd, he, pd, pe, dd, q⟩ := h
  obtain ⟨as, r1, _⟩ := hd.reads I hS rx
  obtain ⟨bs, r2, _⟩ := he.reads I hS ry
  have room := hr.un
  have hm := Nat.min_le_left d.depth e.depth
  exact SeqAt.eq_plain r1 r2 pd pe (by omega) ⟨.bl _, H, I, rfl, q⟩
theorem op_ltVV (hS : SysIn X.K) (hr : Room n X.A) : OpR X (compareOp .Lt) (fun x y H Q => ∃ (F : Addr → Prop) (k : Kd) (d e : PyData) (r : Int), Dt F H x d ∧ Dt F H y e ∧ d.plain = true ∧ e.plain = true ∧ d.depth ≤ 190 ∧ Cm k d e r ∧ r ≠ 0 ∧ Q (.bl (decide (r < 0))) H) := by
  (intro pins s σ H x y v u Q I rx ry h)
  obtain ⟨F, k, d, e, r, hd, he, pd, pe, dd, cm, n0, q⟩ := h
  obtain ⟨as, r1, _⟩ := hd.reads I hS rx
  obtain ⟨bs, r2, _⟩ := he.reads I hS ry
  have room := hr.un
  have hm := Nat.min_le_left d.depth e.depth
  exact cm_lt cm r1 r2 n0 pd pe (by omega) X.prog X.w _ _ ⟨.bl _, H, I, rfl, q⟩
end
def spOr : Sp := fun vs H Q _ => ∃ (F : Addr → Prop) (kv ov tv : V) (k : Kd) (d e : PyData) (M N : Nat) (r : Int), vs = [kv, ov, tv] ∧ (∀ p, H p = none → F p) ∧ Dt F H kv k.d ∧ k.closed = true ∧ k.noFn = true ∧ k.dep ≤ 100 ∧ k.kz ≤ 10000 ∧ Dt F H ov d ∧ Dt F H tv e ∧ VV M k d ∧ VV N k e ∧
  sz d ≤ 10000000 ∧ sz e ≤ 10000000 ∧ Cm k d e r ∧ ∀ H', Same H H' → Q (.int r) H'
end KB
namespace KB
open PySem L2 PySem.Spec PyProof.Rows
section
variable {A : Around} {E : Value → Shared → Prop} {s : Shared} {prog : Program} {w : World}
theorem back_bounds (n : Nat) : Builtin.Slice.sliceAdjust none none (-1) (n : Int) = ((n : Int) - 1, -1) := rfl
theorem back_places (n : Nat) : Builtin.Slice.slicePlaces ((n : Int) - 1) (-1) (-1) = n := by
  (unfold Builtin.Slice.slicePlaces)
  rw [if_neg (by decide)]
  by_cases h : n = 0
  · subst h
    rfl
  · rw [if_pos (by omega), show (-(-1) : Int) = 1 by decide, Int.ediv_one]
    omega
theorem back_pick (xs : Array Value) : ((List.range xs.size).filterMap fun (k : Nat) => xs[(((xs.size : Int) - 1) + (k : Int) * (-1)).toNat]?).toArray = xs.toList.reverse.toArray := by
  have e : (fun (k : Nat) => xs[(((xs.size : Int) - 1) + (k : Int) * (-1)).toNat]?) = (fun k => xs[k]?) ∘ fun k => xs.size - 1 - k := by
    funext k
    have : (((xs.size : Int) - 1) + (k : Int) * (-1)).toNat = xs.size - 1 - k := by omega
    rw [this]
    rfl
  rw [e, ← List.filterMap_map, PySem.W.krv_range, List.filterMap_reverse, PySem.W.krv_all]
theorem back_applied {sl : Addr} {a b c : Value} {n : Nat} {Q : Int × Int × Nat → Shared → Prop} (hs : s.heap.IsSliceOf sl a b c) (pa : IsPart a none) (pb : IsPart b none) (pc : IsPart c (some (-1))) (h : Q ((n : Int) - 1, -1, n) s) : wpAny (model prog w) A (Builtin.Slice.sliceApplied (.ref sl) (pure (n : Int))) Q E s := by
  obtain ⟨o, ho, hc, hd⟩ := id hs
  (unfold Builtin.Slice.sliceApplied Builtin.Slice.sliceFields)
  refine wpAny_bind (wpAny_bind (wpAny_field ho hd (x := a) rfl (wpAny_bind (wpAny_field ho hd (x := b) rfl (wpAny_bind (wpAny_field ho hd (x := c) rfl (wpAny_pure ?_)))))))
  refine wpAny_bind (HT.slicePart_ pc ?_)
  show wpAny _ _ (if ((-1 : Int) == 0) = true then _ else _) _ _ s
  rw [if_neg (by decide)]
  refine wpAny_bind (HT.slicePart_ pa (wpAny_bind (HT.slicePart_ pb (wpAny_bind (wpAny_pure ?_)))))
  show wpAny _ _ (match Builtin.Slice.sliceAdjust none none (-1) (n : Int) with | (lo, hi) => pure (lo, (-1 : Int), Builtin.Slice.slicePlaces lo hi (-1))) _ _ s
  rw [back_bounds n]
  show wpAny _ _ (pure ((n : Int) - 1, (-1 : Int), Builtin.Slice.slicePlaces ((n : Int) - 1) (-1) (-1))) _ _ s
  rw [back_places]
  exact wpAny_pure h
theorem back_item {t sl : Addr} {xs : Array Value} {a b c : Value} {Q : Value → Shared → Prop} (ht : IsTup s.heap t xs) (hs : s.heap.IsSliceOf sl a b c) (pa : IsPart a none) (pb : IsPart b none) (pc : IsPart c (some (-1)))
    (h : Q (.ref s.heap.objs.size) { s with heap := s.heap.push { cls := .type "tuple", data := .seq xs.toList.reverse.toArray } }) (hz : xs.size ≤ sizeLine) : wpAny (model prog w) A (getItem (.ref t) (.ref sl)) Q E s := by
  have fits : sizeOk (.seq xs.toList.reverse.toArray) := by
    show xs.toList.reverse.toArray.size ≤ sizeLine
    simpa using hz
  obtain ⟨o, ho, hc, hd⟩ := id hs
  have tS : s.TypeIs (.ref sl) "slice" := ⟨o, ho, hc⟩
  have hT := ht.typeIs
  unfold getItem
  (try with_reducible refine wpAny_holding ?_)
  (first | refine wpAny_bind (wpAny_pure ?_) | skip)
  refine wpAny_bind (wpAny_sequenceKey hT (by decide) ?_)
  refine wpAny_bind (wpAny_callSpecial?_slot (name := Str.ofString "__getitem__") hT PyProof.Rows.slot_tuple_getitem (wpAny_call_entry PyProof.Rows.slot_tuple_getitem hT entry_tuple_getitem ?_ (args_tuple_getitem _ _)))
  (show wpAny _ _ (Builtin.Tuple.tupleItemsOf (.ref t) >>= _) _ _ s)
  refine wpAny_bind (tupleItemsOf_ ht (wpAny_bind (wpAny_typeOf tS ?_)))
  rw [if_pos (by decide)]
  refine wpAny_bind (back_applied hs pa pb pc ?_)
  have no : ¬ ((((xs.size : Int) - 1) == 0 && (-1 : Int) == 1 && xs.size == xs.size) = true) := by
    rw [show ((-1 : Int) == 1) = false by decide, Bool.and_false, Bool.false_and]
    exact Bool.false_ne_true
  show wpAny _ _ (if (((xs.size : Int) - 1) == 0 && (-1 : Int) == 1 && xs.size == xs.size) = true then _ else _) _ _ s
  rw [if_neg no, back_pick]
  first
    | exact wpAny_bind (m := Builtin.Tuple.tupleExact _) (wpAny_newObj_type (wpAny_pure ⟨_, rfl, wpAny_pure h⟩) fits)
    | exact wpAny_bind (m := Builtin.Tuple.tupleExact _) (wpAny_newObj_type (wpAny_bind (wpAny_pure (wpAny_pure ⟨_, rfl, wpAny_pure h⟩))) fits)
    | exact wpAny_bind (wpAny_bind (m := Builtin.Tuple.tupleExact _) (wpAny_newObj_type (wpAny_pure (wpAny_pure ⟨_, rfl, wpAny_pure h⟩)) fits))
    | exact wpAny_bind (wpAny_bind (m := Builtin.Tuple.tupleExact _) (wpAny_newObj_type (wpAny_pure ⟨_, rfl, wpAny_pure h⟩) fits))
end
def tRevT (K : PySem.W.Frag) (te : TE) : TE := fun σ H Q => te σ H fun x H1 => ∃ a xs, x = .ref a ∧ SqT K H1 a xs ∧ ∀ p, H1 p = none → Q (.ref p) (upd H1 p (.tup xs.reverse))
theorem pe_revT {X : Cx} {e : Expr} {te : TE} {k : Nat} {p1 p2 p3 pos : Pos} (he : PE X e te) : PE X (.Subscript e (.Slice none none (some (.UnaryOp .USub (.Constant (.int 1) k p1) p2)) p3) pos) (tRevT X.K te) := by
  refine ⟨fun pins s σ H Q I h => Subscript_ (thn (he.run pins s σ H _ I h) fun v s1 ⟨x, H1, I1, r1, a, xs, ex, hx, q⟩ => ?_)⟩
  subst ex
  cases r1
  have step : PO X (some (.UnaryOp .USub (.Constant (.int 1) k p1) p2)) (tPart (tUn (rU fun i => .int (-i)) (tC (.int 1)))) := po_some (pe_un un_neg pe_int)
  (refine wpAny_Slice (thn (po_none.run pins s1 σ H1 (fun o H2 => o = none ∧ H2 = H1) I1 ⟨rfl, rfl⟩) fun vl s2 ⟨l, H2, I2, pl, el, e2⟩ => ?_))
  subst el e2
  (refine thn (po_none.run pins s2 σ H2 (fun o H3 => o = none ∧ H3 = H2) I2 ⟨rfl, rfl⟩) fun vu s3 ⟨u, H3, I3, pu, eu, e3⟩ => ?_)
  subst eu e3
  refine thn (step.run pins s3 σ H3 (fun o H4 => o = some (-1) ∧ H4 = H3) I3 ⟨1, rfl, -1, rfl, rfl, rfl⟩) fun vs s4 ⟨o, H4, I4, ps, eo, e4⟩ => ?_
  subst eo e4
  (have I5 : Inv X pins σ H4 { s4 with heap := s4.heap.push { cls := .type "slice", data := .fields #[vl, vu, vs] } } := I4.kept (t' := s4.toks) fun b ob q => Heap.get?_push_of_some _ q)
  obtain ⟨its, r, ht, hz⟩ := I5.tuple hx
  have len := r.length
  (show wpAny (model X.prog X.w) X.A (subscriptTail e (.Slice none none (some (.UnaryOp .USub (.Constant (.int 1) k p1) p2)) p3) (.ref a) (.ref s4.heap.objs.size)) (EP X pins σ Q) X.xe { s4 with heap := s4.heap.push { cls := .type "slice", data := .fields #[vl, vu, vs] } })
  refine tail_any (ops := [.ref a, .ref s4.heap.objs.size]) ht.typeIs PyProof.Rows.slot_tuple_getitem.lookup ?_ (by with_unfolding_all rfl)
  refine back_item ht (Heap.IsSliceOf.new _ vl vu vs) pl pu ps ?_ (by rw [List.size_toArray]; omega)
  refine ⟨.ref _, _, I5.laid (t' := s4.toks) (o := .tup xs.reverse) (fun b ob q => Heap.get?_push_of_some _ q) (Nat.le_refl _) ?_, rfl, q _ (I5.hok.fresh (Nat.le_refl _))⟩
  refine ⟨by rw [List.length_reverse]; exact hz, _, r.reverse, ?_⟩
  exact IsTup.new _ _
end KB
namespace KB
open PySem L2 PySem.Spec PyProof.Rows
def rowv (w : Str) (l : List Nat) : Nat :=
  if w = "fn" then (match l with | [_, _, t] => 1 + t | _ => 0)
  else if w = "call" then (match l with | [f, _] => f | _ => 0)
  else if w = "let" then (match l with | [_, p, t] => p + t | _ => 0)
  else if w = "pair" then (match l with | [a, b] => 1 + max a b | _ => 0)
  else if w = "first" then (match l with | [p] => p | _ => 0)
  else if w = "second" then (match l with | [p] => p | _ => 0)
  else if w = "left" then (match l with | [p, _] => 1 + p | _ => 0)
  else if w = "right" then (match l with | [_, p] => 1 + p | _ => 0)
  else if w = "case" then (match l with | [e, _, t, _, u] => e + max t u | _ => 0)
  else if w = "cons" then (match l with | [_, r] => r | _ => 0)
  else if w = "fold" then (match l with | [_, z, _] => z | _ => 0)
  else 0
def cntT : List (Str × List Bool) := [("fn", [false, false, true]), ("call", [true, false]), ("let", [false, true, true]), ("pair", [true, true]), ("first", [true]), ("second", [true]), ("left", [true, false]), ("right", [false, true]), ("case", [true, false, true, false, true]), ("cons", [false, true]), ("fold", [false, true, false])]
def cntL (w : Str) : List Bool := ((cntT.find? fun p => decide (p.1 = w)).map (·.2)).getD []
def cnt (w : Str) (i : Nat) : Prop := (cntL w)[i]? = some true
def rsw (w : Str) : Nat := if w = "fn" ∨ w = "pair" ∨ w = "left" ∨ w = "right" then 1 else 0
def ri : Nat → PyData → Nat
  | 0, _ => 0
  | k + 1, .tuple (.str w :: ds) => rowv w (ds.map (ri k))
  | _ + 1, _ => 0
mutual
def rb (b : Nat) : PyData → Bool
  | .tuple ds => ((List.range 17).all fun k => decide (ri k (.tuple ds) ≤ b)) && rbA b ds
  | .list ds => rbA b ds
  | _ => true
def rbA (b : Nat) : List PyData → Bool
  | [] => true
  | d :: ds => rb b d && rbA b ds
end
theorem rbA_iff {b : Nat} : ∀ {ds : List PyData}, rbA b ds = true ↔ ∀ d ∈ ds, rb b d = true
  | [] => by simp [rbA]
  | d :: ds => by rw [rbA, Bool.and_eq_true, rbA_iff (ds := ds), List.forall_mem_cons]
theorem rb_tup {b : Nat} {ds : List PyData} : rb b (.tuple ds) = true ↔ (∀ k, k ≤ 16 → ri k (.tuple ds) ≤ b) ∧ ∀ x ∈ ds, rb b x = true := by
  rw [rb, Bool.and_eq_true, rbA_iff, List.all_eq_true]
  refine and_congr ⟨fun h k hk => ?_, fun h k hk => ?_⟩ Iff.rfl
  · exact of_decide_eq_true (h k (List.mem_range.mpr (by omega)))
  · exact decide_eq_true (h k (by have := List.mem_range.mp hk; omega))
theorem ri_zero (d : PyData) : ri 0 d = 0 := by
  rw [ri]
def S0 (r : Nat) (d : PyData) : Prop := ∀ k, k ≤ 16 → ri k d ≤ r
theorem S0.mono {r q : Nat} {d : PyData} (h : S0 r d) (a : r ≤ q) : S0 q d := fun k hk => Nat.le_trans (h k hk) a
theorem s0_atom {r : Nat} {d : PyData} (h : ∀ ds, d ≠ .tuple ds) : S0 r d := fun k hk => by
  cases k with
  | zero => rw [ri_zero]; exact Nat.zero_le _
  | succ k =>
    cases d with
    | tuple ds => exact absurd rfl (h ds)
    | _ => rw [ri]; exact Nat.zero_le _; all_goals (intros; rename_i z; cases z)
theorem s0_str {r : Nat} (x : Str) : S0 r (.str x) := s0_atom nofun
theorem s0_int {r : Nat} (i : Int) : S0 r (.int i) := s0_atom nofun
theorem s0_lst {r : Nat} (ds : List PyData) : S0 r (.list ds) := s0_atom nofun
theorem s0_rb {b : Nat} {d : PyData} (h : rb b d = true) : S0 b d := by
  cases d with
  | tuple ds => exact (rb_tup.mp h).1
  | _ => exact s0_atom nofun
def tw (w : Str) : Prop := w = "let" ∨ w = "case"
theorem rowv_cnt {w : Str} {l : List Nat} {B : Nat} (h1 : ∀ (i x : Nat), l[i]? = some x → cnt w i → rsw w + x ≤ B) (h2 : tw w → ∀ (i j x y : Nat), i < j → l[i]? = some x → l[j]? = some y → cnt w i → cnt w j → x + y ≤ B) : rowv w l ≤ B := by
  unfold rowv
  split
  · rename_i e; subst e
    split
    · exact h1 2 _ rfl (by unfold cnt; decide +kernel)
    · exact Nat.zero_le _
  split
  · rename_i e; subst e
    split
    · exact Nat.le_trans (Nat.le_add_left _ _) (h1 0 _ rfl (by unfold cnt; decide +kernel))
    · exact Nat.zero_le _
  split
  · rename_i e; subst e
    split
    · exact h2 (.inl rfl) 1 2 _ _ (by decide) rfl rfl (by unfold cnt; decide +kernel) (by unfold cnt; decide +kernel)
    · exact Nat.zero_le _
  split
  · rename_i e; subst e
    split
    · have a := h1 0 _ rfl (by unfold cnt; decide +kernel)
      have b := h1 1 _ rfl (by unfold cnt; decide +kernel)
      have e : rsw "pair" = 1 := by decide +kernel
      rw [e] at a b
      omega
    · exact Nat.zero_le _
  split
  · rename_i e; subst e
    split
    · exact Nat.le_trans (Nat.le_add_left _ _) (h1 0 _ rfl (by unfold cnt; decide +kernel))
    · exact Nat.zero_le _
  split
  · rename_i e; subst e
    split
    · exact Nat.le_trans (Nat.le_add_left _ _) (h1 0 _ rfl (by unfold cnt; decide +kernel))
    · exact Nat.zero_le _
  split
  · rename_i e; subst e
    split
    · exact h1 0 _ rfl (by unfold cnt; decide +kernel)
    · exact Nat.zero_le _
  split
  · rename_i e; subst e
    split
    · exact h1 1 _ rfl (by unfold cnt; decide +kernel)
    · exact Nat.zero_le _
  split
  · rename_i e; subst e
    split
    · have a := h2 (.inr rfl) 0 2 _ _ (by decide) rfl rfl (by unfold cnt; decide +kernel) (by unfold cnt; decide +kernel)
      have b := h2 (.inr rfl) 0 4 _ _ (by decide) rfl rfl (by unfold cnt; decide +kernel) (by unfold cnt; decide +kernel)
      omega
    · exact Nat.zero_le _
  split
  · rename_i e; subst e
    split
    · exact Nat.le_trans (Nat.le_add_left _ _) (h1 1 _ rfl (by unfold cnt; decide +kernel))
    · exact Nat.zero_le _
  split
  · rename_i e; subst e
    split
    · exact Nat.le_trans (Nat.le_add_left _ _) (h1 1 _ rfl (by unfold cnt; decide +kernel))
    · exact Nat.zero_le _
  exact Nat.zero_le _
theorem rsw_le (w : Str) : rsw w ≤ 1 := by
  unfold rsw
  split <;> omega
theorem s0_node {w : Str} {ds : List PyData} {B : Nat} (c : Nat → Nat) (h : ∀ (i : Nat) (x : PyData), ds[i]? = some x → cnt w i → S0 (c i) x) (h1 : ∀ i, cnt w i → rsw w + c i ≤ B) (h2 : tw w → ∀ i j, i < j → cnt w i → cnt w j → c i + c j ≤ B) : S0 B (.tuple (.str w :: ds)) := fun k hk => by
  cases k with
  | zero => rw [ri_zero]; exact Nat.zero_le _
  | succ k =>
    rw [ri]
    refine rowv_cnt (fun i x hx hc => ?_) (fun tw i j x y ij hx hy hi hj => ?_)
    · rw [List.getElem?_map] at hx
      (obtain ⟨d, hd, rfl⟩ := Option.map_eq_some_iff.mp hx)
      exact Nat.le_trans (Nat.add_le_add_left (h i d hd hc k (by omega)) _) (h1 i hc)
    · rw [List.getElem?_map] at hx hy
      (obtain ⟨d, hd, rfl⟩ := Option.map_eq_some_iff.mp hx)
      obtain ⟨e, he, rfl⟩ := Option.map_eq_some_iff.mp hy
      exact Nat.le_trans (Nat.add_le_add (h i d hd hi k (by omega)) (h j e he hj k (by omega))) (h2 tw i j ij hi hj)
theorem s0_bare {r : Nat} {ds : List PyData} (h : ∀ w t, ds ≠ .str w :: t) : S0 r (.tuple ds) := fun k hk => by
  cases k with
  | zero => rw [ri_zero]; exact Nat.zero_le _
  | succ k =>
    cases ds with
    | nil => rw [ri]; exact Nat.zero_le _; all_goals (intros; rename_i z; cases z)
    | cons e es =>
      cases e with
      | str w => exact absurd rfl (h w es)
      | _ => rw [ri]; exact Nat.zero_le _; all_goals (intros; rename_i z; cases z)
theorem s0_tail {e : PyData} {es : List PyData} {m B : Nat} (h : ∀ x ∈ es, S0 m x) (h1 : 1 + m ≤ B) (h2 : 2 * m ≤ B) : S0 B (.tuple (e :: es)) := by
  cases e with
  | str w => exact s0_node (fun _ => m) (fun i x hx _ => h x (List.mem_of_getElem? hx)) (fun i _ => by have := rsw_le w; omega) (fun _ i j _ _ _ => by omega)
  | _ => exact s0_bare nofun
theorem s0_any {es : List PyData} {m B : Nat} (h : ∀ x ∈ es, S0 m x) (h1 : 1 + m ≤ B) (h2 : 2 * m ≤ B) : S0 B (.tuple es) := by
  cases es with
  | nil => exact s0_bare nofun
  | cons e es =>
    cases e with
    | str w => exact s0_node (fun _ => m) (fun i x hx _ => h x (List.mem_cons_of_mem _ (List.mem_of_getElem? hx))) (fun i _ => by have := rsw_le w; omega) (fun _ i j _ _ _ => by omega)
    | _ => exact s0_bare nofun
structure Od (x : PyData) : Prop where
  z : rb 0 x = true
  d : x.depth ≤ 4
inductive Spl : PyData → PyData → Prop
  | at_ {d e : PyData} (h : Od e) : Spl d e
  | row {ds es : List PyData} (h : ∀ x ∈ es, x ∈ ds ∨ Od x) : Spl (.tuple ds) (.tuple es)
  | lst {ds : List PyData} : Spl (.tuple ds) (.list ds)
  | path {ds : List PyData} {i : Nat} {x e : PyData} (h : ds[i]? = some x) (s : Spl x e) : Spl (.tuple ds) (.tuple (ds.set i e))
def S1 (r : Nat) (d : PyData) : Prop := ∀ e, Spl d e → S0 r e
def S2 (r : Nat) (d : PyData) : Prop := ∀ e, Spl d e → S1 r e
theorem S1.mono {r q : Nat} {d : PyData} (h : S1 r d) (a : r ≤ q) : S1 q d := fun e s => (h e s).mono a
theorem S2.mono {r q : Nat} {d : PyData} (h : S2 r d) (a : r ≤ q) : S2 q d := fun e s => (h e s).mono a
theorem Od.s0 {x : PyData} (h : Od x) (r : Nat) : S0 r x := (s0_rb h.z).mono (Nat.zero_le _)
theorem s1_atom {r : Nat} {d : PyData} (h : ∀ ds, d ≠ .tuple ds) : S1 r d := fun e s => by
  cases s with
  | at_ o => exact o.s0 r
  | row _ => exact absurd rfl (h _)
  | lst => exact absurd rfl (h _)
  | path _ _ => exact absurd rfl (h _)
theorem s2_atom {r : Nat} (hr : 4 ≤ r) (ho : ∀ x, Od x → S1 4 x) {d : PyData} (h : ∀ ds, d ≠ .tuple ds) : S2 r d := fun e s => by
  cases s with
  | at_ o => exact (ho _ o).mono hr
  | row _ => exact absurd rfl (h _)
  | lst => exact absurd rfl (h _)
  | path _ _ => exact absurd rfl (h _)
theorem s1_str {r : Nat} (x : Str) : S1 r (.str x) := s1_atom nofun
theorem mem_set_or {ds : List PyData} {i : Nat} {e y : PyData} (h : y ∈ ds.set i e) : y ∈ ds ∨ y = e := List.mem_or_eq_of_mem_set h
theorem od_s1 : ∀ (n : Nat) (x : PyData), rb 0 x = true → x.depth ≤ n → S1 n x
  | n, .tuple ds, hz, hd => fun e s => by
    obtain ⟨z1, z2⟩ := rb_tup.mp hz
    have hn : n ≠ 0 := fun z => by
      simp only [PyData.depth] at hd
      omega
    (obtain ⟨m, rfl⟩ : ∃ m, n = m + 1 := ⟨n - 1, by omega⟩)
    have dm : ∀ x ∈ ds, x.depth ≤ m := fun x hx => by
      have := depth_mem hx
      simp only [PyData.depth] at hd
      omega
    cases s with
    | at_ o => exact o.s0 _
    | row h => exact s0_any (m := 0) (fun x hx => (h x hx).elim (fun q => s0_rb (z2 x q)) fun o => o.s0 0) (by omega) (by omega)
    | lst => exact s0_lst _
    | @path _ i x e h s =>
      have hx := List.mem_of_getElem? h
      have ih := od_s1 m x (z2 x hx) (dm x hx) e s
      cases ds with
      | nil => cases h
      | cons a t =>
        cases i with
        | zero =>
          cases h
          rw [List.set_cons_zero]
          exact s0_tail (m := 0) (fun y hy => s0_rb (z2 y (List.mem_cons_of_mem _ hy))) (by omega) (by omega)
        | succ i =>
          rw [List.set_cons_succ]
          have h' : t[i]? = some x := h
          cases a with
          | str w =>
            refine s0_node (fun j => if j = i then m else 0) (fun j y hy _ => ?_) (fun j _ => ?_) (fun _ j l jl _ _ => ?_)
            · show S0 (if j = i then m else 0) y
              by_cases e : j = i
              · subst e
                rw [if_pos rfl]
                have il : j < t.length := (List.getElem?_eq_some_iff.mp h').1
                rw [List.getElem?_set_self il] at hy
                cases hy
                exact ih
              · rw [if_neg e]
                rw [List.getElem?_set_ne (fun z => e z.symm)] at hy
                exact s0_rb (z2 y (List.mem_cons_of_mem _ (List.mem_of_getElem? hy)))
            · show rsw w + (if j = i then m else 0) ≤ m + 1
              have := rsw_le w
              split <;> omega
            · show (if j = i then m else 0) + (if l = i then m else 0) ≤ m + 1
              split <;> split <;> omega
          | _ => exact s0_bare nofun
  | n, .none, _, _ => s1_atom nofun
  | n, .bool _, _, _ => s1_atom nofun
  | n, .int _, _, _ => s1_atom nofun
  | n, .str _, _, _ => s1_atom nofun
  | n, .list _, _, _ => s1_atom nofun
  | n, .dict _, _, _ => s1_atom nofun
theorem Od.s1 {x : PyData} (h : Od x) : S1 4 x := od_s1 4 x h.z h.d
theorem s1_node {w : Str} {ds : List PyData} {B M : Nat} (c s : Nat → Nat) (h : ∀ (i : Nat) (x : PyData), ds[i]? = some x → cnt w i → S0 (c i) x ∧ S1 (s i) x) (hM : ∀ x ∈ ds, S0 M x) (cs : ∀ i, c i ≤ s i) (h1 : ∀ i, cnt w i → rsw w + s i ≤ B) (h2 : tw w → ∀ i j, i ≠ j → cnt w i → cnt w j → c i + s j ≤ B) (b1 : 1 + M ≤ B) (b2 : 2 * M ≤ B) : S1 B (.tuple (.str w :: ds)) := fun e sp => by
  cases sp with
  | at_ o => exact o.s0 _
  | row q => exact s0_any (m := M) (fun x hx => (q x hx).elim (fun z => (List.mem_cons.mp z).elim (fun z => by rw [z]; exact s0_str _) (hM x)) fun o => o.s0 M) b1 b2
  | lst => exact s0_lst _
  | @path _ i x e hi sp =>
    cases i with
    | zero =>
      rw [List.set_cons_zero]
      exact s0_tail hM b1 b2
    | succ i =>
      rw [List.set_cons_succ]
      have hi' : ds[i]? = some x := hi
      have il : i < ds.length := (List.getElem?_eq_some_iff.mp hi').1
      refine s0_node (fun j => if j = i then s j else c j) (fun j y hy hc => ?_) (fun j hc => ?_) (fun hw j l jl hj hl => ?_)
      · show S0 (if j = i then s j else c j) y
        by_cases z : j = i
        · subst z
          rw [if_pos rfl]
          rw [List.getElem?_set_self il] at hy
          cases hy
          exact (h j x hi' hc).2 _ sp
        · rw [if_neg z]
          rw [List.getElem?_set_ne (fun q => z q.symm)] at hy
          exact (h j y hy hc).1
      · show rsw w + (if j = i then s j else c j) ≤ B
        have := h1 j hc
        have := cs j
        split <;> omega
      · show (if j = i then s j else c j) + (if l = i then s l else c l) ≤ B
        have a := h2 hw j l (by omega) hj hl
        have b := h2 hw l j (by omega) hl hj
        have := cs j
        have := cs l
        split <;> split <;> omega
theorem s2_node {w : Str} {ds : List PyData} {B M N : Nat} (c s t : Nat → Nat) (h : ∀ (i : Nat) (x : PyData), ds[i]? = some x → cnt w i → S0 (c i) x ∧ S1 (s i) x ∧ S2 (t i) x) (hM : ∀ x ∈ ds, S0 M x ∧ S1 N x) (mn : M ≤ N) (n4 : 4 ≤ N) (cs : ∀ i, c i ≤ s i) (st : ∀ i, s i ≤ t i) (h1 : ∀ i, cnt w i → rsw w + t i ≤ B) (h2 : tw w → ∀ i j, i ≠ j → cnt w i → cnt w j → c i + t j ≤ B ∧ s i + s j ≤ B) (b2 : 2 * N ≤ B) : S2 B (.tuple (.str w :: ds)) := by
  -- any row of the parts and of odd things, spoilt once more
  have rows : ∀ es : List PyData, (∀ x ∈ es, x = .str w ∨ x ∈ ds ∨ Od x) → S1 B (.tuple es) := fun es he e sp => by
    have e0 : ∀ x ∈ es, S0 M x := fun x hx => (he x hx).elim (fun z => by rw [z]; exact s0_str _) fun z => z.elim (fun z => (hM x z).1) fun o => o.s0 M
    have e1 : ∀ x ∈ es, S1 N x := fun x hx => (he x hx).elim (fun z => by rw [z]; exact s1_str _) fun z => z.elim (fun z => (hM x z).2) fun o => o.s1.mono n4
    cases sp with
    | at_ o => exact o.s0 _
    | row q => exact s0_any (m := M) (fun x hx => (q x hx).elim (e0 x) fun o => o.s0 M) (by omega) (by omega)
    | lst => exact s0_lst _
    | @path _ i x e hi sp => exact s0_any (m := N) (fun y hy => (mem_set_or hy).elim (fun z => (e0 y z).mono mn) fun z => by rw [z]; exact e1 x (List.mem_of_getElem? hi) e sp) (by omega) b2
  intro e sp
  cases sp with
  | at_ o => exact o.s1.mono (by omega)
  | row q => exact rows _ fun x hx => (q x hx).elim (fun z => (List.mem_cons.mp z).elim .inl fun z => .inr (.inl z)) fun o => .inr (.inr o)
  | lst => exact s1_atom nofun
  | @path _ i x e hi sp =>
    cases i with
    | zero =>
      cases hi
      rw [List.set_cons_zero]
      cases sp with
      | at_ o => exact rows _ fun y hy => (List.mem_cons.mp hy).elim (fun z => .inr (.inr (by rw [z]; exact o))) fun z => .inr (.inl z)
    | succ i =>
      rw [List.set_cons_succ]
      have hi' : ds[i]? = some x := hi
      have il : i < ds.length := (List.getElem?_eq_some_iff.mp hi').1
      have xm := List.mem_of_getElem? hi'
      have ex : S0 N e := (hM x xm).2 e sp
      have all : ∀ y ∈ ds.set i e, S0 N y := fun y hy => (mem_set_or hy).elim (fun z => (hM y z).1.mono mn) fun z => by rw [z]; exact ex
      intro e2 sp2
      cases sp2 with
      | at_ o => exact o.s0 _
      | row q => exact s0_any (m := N) (fun y hy => (q y hy).elim (fun z => (List.mem_cons.mp z).elim (fun z => by rw [z]; exact s0_str _) (all y)) fun o => o.s0 N) (by omega) b2
      | lst => exact s0_lst _
      | @path _ i2 x2 e2 hi2 sp2 =>
        cases i2 with
        | zero =>
          rw [List.set_cons_zero]
          exact s0_tail all (by omega) b2
        | succ j =>
          rw [List.set_cons_succ]
          have hj : (ds.set i e)[j]? = some x2 := hi2
          by_cases z : j = i
          · subst z
            rw [List.getElem?_set_self il] at hj
            cases hj
            rw [List.set_set]
            refine s0_node (fun l => if l = j then t l else c l) (fun l y hy hc => ?_) (fun l hc => ?_) (fun hw l m lm hl hm => ?_)
            · show S0 (if l = j then t l else c l) y
              by_cases q : l = j
              · subst q
                rw [if_pos rfl]
                rw [List.getElem?_set_self il] at hy
                cases hy
                exact (h l x hi' hc).2.2 _ sp _ sp2
              · rw [if_neg q]
                rw [List.getElem?_set_ne (fun z => q z.symm)] at hy
                exact (h l y hy hc).1
            · show rsw w + (if l = j then t l else c l) ≤ B
              have := h1 l hc
              have := cs l
              have := st l
              split <;> omega
            · show (if l = j then t l else c l) + (if m = j then t m else c m) ≤ B
              have a := (h2 hw l m (by omega) hl hm).1
              have b := (h2 hw m l (by omega) hm hl).1
              have := cs l
              have := cs m
              have := st l
              have := st m
              split <;> split <;> omega
          · have hj2 : ds[j]? = some x2 := by
              rw [List.getElem?_set_ne (fun q => z q.symm)] at hj
              exact hj
            have jl : j < (ds.set i e).length := (List.getElem?_eq_some_iff.mp hj).1
            refine s0_node (fun l => if l = j then s l else if l = i then s l else c l) (fun l y hy hc => ?_) (fun l hc => ?_) (fun hw l m lm hl hm => ?_)
            · show S0 (if l = j then s l else if l = i then s l else c l) y
              by_cases q : l = j
              · subst q
                rw [if_pos rfl]
                rw [List.getElem?_set_self jl] at hy
                cases hy
                exact (h l x2 hj2 hc).2.1 _ sp2
              · rw [if_neg q]
                rw [List.getElem?_set_ne (fun z => q z.symm)] at hy
                by_cases q2 : l = i
                · subst q2
                  rw [if_pos rfl]
                  rw [List.getElem?_set_self il] at hy
                  cases hy
                  exact (h l x hi' hc).2.1 _ sp
                · rw [if_neg q2]
                  rw [List.getElem?_set_ne (fun z => q2 z.symm)] at hy
                  exact (h l y hy hc).1
            · show rsw w + (if l = j then s l else if l = i then s l else c l) ≤ B
              have := h1 l hc
              have := cs l
              have := st l
              split
              · omega
              · split <;> omega
            · show (if l = j then s l else if l = i then s l else c l) + (if m = j then s m else if m = i then s m else c m) ≤ B
              have a := (h2 hw l m (by omega) hl hm).2
              have := cs l
              have := cs m
              have p1 : (if l = j then s l else if l = i then s l else c l) ≤ s l := by
                split
                · omega
                · split <;> omega
              have p2 : (if m = j then s m else if m = i then s m else c m) ≤ s m := by
                split
                · omega
                · split <;> omega
              omega
end KB
namespace KB
open PySem L2 PySem.Spec PyProof.Rows
mutual
def txOk : PyData → Bool
  | .str x => PyData.strOk x
  | .tuple ds => txOkA ds
  | .list ds => txOkA ds
  | _ => true
def txOkA : List PyData → Bool
  | [] => true
  | d :: ds => txOk d && txOkA ds
end
theorem txOkA_mem {d : PyData} : ∀ {ds : List PyData}, txOkA ds = true → d ∈ ds → txOk d = true
  | e :: ds, h, m => by
    obtain ⟨h1, h2⟩ := Bool.and_eq_true_iff.mp (show (txOk e && txOkA ds) = true from h)
    rcases List.mem_cons.mp m with m | m
    · rw [m]; exact h1
    · exact txOkA_mem h2 m
theorem txOkA_of : ∀ {ds : List PyData}, (∀ d ∈ ds, txOk d = true) → txOkA ds = true
  | [], _ => rfl
  | e :: ds, h => by
    rw [txOkA, h e List.mem_cons_self, txOkA_of fun d m => h d (List.mem_cons_of_mem _ m)]
    rfl
theorem tx_tup {ds : List PyData} : txOk (.tuple ds) = true ↔ ∀ d ∈ ds, txOk d = true :=
  ⟨fun h d m => txOkA_mem (show txOkA ds = true from h) m, fun h => show txOkA ds = true from txOkA_of h⟩
structure Bt (B : Nat) (d e : PyData) : Prop where
  sh : e.showable = true
  dp : e.depth ≤ d.depth + 4
  ln : sz e ≤ 2 * sz d + 500
  ib : IB (B + 1) e
  tx : txOk d = true → txOk e = true
  sp : Spl d e
theorem showAll_iff : ∀ {ds : List PyData}, PyData.showableAll ds = true ↔ ∀ x ∈ ds, x.showable = true
  | [] => by simp [PyData.showableAll]
  | d :: ds => by simp only [PyData.showableAll, Bool.and_eq_true, showAll_iff (ds := ds), List.mem_cons, forall_eq_or_imp]
theorem sh_tup {ds : List PyData} : (PyData.tuple ds).showable = true ↔ ∀ x ∈ ds, x.showable = true := by
  simp only [PyData.showable]
  exact showAll_iff
theorem sh_lst {ds : List PyData} : (PyData.list ds).showable = true ↔ ∀ x ∈ ds, x.showable = true := by
  simp only [PyData.showable]
  exact showAll_iff
theorem dp_tup {ds : List PyData} {n : Nat} (h : ∀ x ∈ ds, x.depth ≤ n) : (PyData.tuple ds).depth ≤ n + 1 := by
  simp only [PyData.depth]
  exact Nat.succ_le_succ (depthAll_le h)
theorem dp_lst {ds : List PyData} {n : Nat} (h : ∀ x ∈ ds, x.depth ≤ n) : (PyData.list ds).depth ≤ n + 1 := by
  simp only [PyData.depth]
  exact Nat.succ_le_succ (depthAll_le h)
theorem dp_mem {ds : List PyData} {x : PyData} (h : x ∈ ds) : x.depth + 1 ≤ (PyData.tuple ds).depth := by
  simp only [PyData.depth]
  exact Nat.succ_le_succ (depth_mem h)
theorem sz_tup (ds : List PyData) : sz (.tuple ds) = szA ds + 3 := by rw [sz]
theorem sz_lst (ds : List PyData) : sz (.list ds) = szA ds + 3 := by rw [sz]
theorem szA_one (d : PyData) : szA [d] = sz d + 2 := by rw [szA, szA, Nat.add_zero]
theorem szA_split (ds : List PyData) (i : Nat) : szA (ds.take i) + szA (ds.drop i) = szA ds := by
  rw [← szA_app, List.take_append_drop]
theorem szA_at {ds : List PyData} {i : Nat} {d : PyData} (h : ds[i]? = some d) : szA (ds.take i) + (sz d + 2) + szA (ds.drop (i + 1)) = szA ds := by
  (obtain ⟨hi, e⟩ := List.getElem?_eq_some_iff.mp h)
  have := szA_split ds i
  rw [List.drop_eq_getElem_cons hi, szA, e] at this
  omega
theorem szA_rev : ∀ ds : List PyData, szA ds.reverse = szA ds
  | [] => rfl
  | d :: ds => by
    rw [List.reverse_cons, szA_app, szA_rev ds, szA_one, szA]
    omega
theorem mem_take {ds : List PyData} {i : Nat} {x : PyData} (h : x ∈ ds.take i) : x ∈ ds := List.mem_of_mem_take h
theorem mem_drop {ds : List PyData} {i : Nat} {x : PyData} (h : x ∈ ds.drop i) : x ∈ ds := List.mem_of_mem_drop h
section
variable {B : Nat} {ds : List PyData} {i : Nat} {d e : PyData}
theorem bt_row {es : List PyData} (hs : (PyData.tuple ds).showable = true) (hb : IB B (.tuple ds)) (hn : ds ≠ []) (h : ∀ x ∈ es, x ∈ ds ∨ (x.showable = true ∧ x.depth ≤ 3 ∧ IB (B + 1) x ∧ txOk x = true ∧ rb 0 x = true)) (hz : szA es + 3 ≤ 2 * (szA ds + 3) + 500) :
    Bt B (.tuple ds) (.tuple es) := by
  obtain ⟨x0, hx0⟩ := List.exists_mem_of_ne_nil ds hn
  have one := dp_mem hx0
  refine ⟨sh_tup.mpr fun x hx => (h x hx).elim (sh_tup.mp hs x) (·.1), ?_, ?_, ib_tup.mpr fun x hx => (h x hx).elim (fun m => (ib_tup.mp hb x m).mono (Nat.le_succ B)) (·.2.2.1), fun tx => tx_tup.mpr fun x hx => (h x hx).elim (tx_tup.mp tx x) (·.2.2.2.1), .row fun x hx => (h x hx).imp id fun q => ⟨q.2.2.2.2, by omega⟩⟩
  · have : (PyData.tuple es).depth ≤ ((PyData.tuple ds).depth + 3) + 1 := dp_tup fun x hx => (h x hx).elim (fun m => by have := dp_mem m; omega) fun q => by omega
    exact this
  · rw [sz_tup, sz_tup]
    exact hz
theorem bt_lst (hs : (PyData.tuple ds).showable = true) (hb : IB B (.tuple ds)) : Bt B (.tuple ds) (.list ds) := by
  refine ⟨sh_lst.mpr (sh_tup.mp hs), ?_, ?_, ib_lst.mpr fun x hx => (ib_tup.mp hb x hx).mono (Nat.le_succ B), fun tx => tx, .lst⟩
  · simp only [PyData.depth]
    omega
  · rw [sz_lst, sz_tup]
    omega
theorem bt_at (hs : (PyData.tuple ds).showable = true) (hb : IB B (.tuple ds)) (hd : ds[i]? = some d) (h : Bt B d e) : Bt B (.tuple ds) (.tuple (ds.take i ++ [e] ++ ds.drop (i + 1))) := by
  have md := List.mem_of_getElem? hd
  have dd := dp_mem md
  have cas : ∀ x ∈ ds.take i ++ [e] ++ ds.drop (i + 1), x ∈ ds ∨ x = e := fun x hx => by
    (rcases (List.mem_append.mp hx) with hx | hx)
    · (rcases (List.mem_append.mp hx) with hx | hx)
      · exact .inl (mem_take hx)
      · exact .inr (List.mem_singleton.mp hx)
    · exact .inl (mem_drop hx)
  refine ⟨sh_tup.mpr fun x hx => (cas x hx).elim (sh_tup.mp hs x) fun z => by rw [z]; exact h.sh, ?_, ?_, ib_tup.mpr fun x hx => (cas x hx).elim (fun m => (ib_tup.mp hb x m).mono (Nat.le_succ B)) fun z => by rw [z]; exact h.ib, fun tx => tx_tup.mpr fun x hx => (cas x hx).elim (tx_tup.mp tx x) fun z => by rw [z]; exact h.tx (tx_tup.mp tx d md), ?_⟩
  · have dp := h.dp
    have : (PyData.tuple (ds.take i ++ [e] ++ ds.drop (i + 1))).depth ≤ ((PyData.tuple ds).depth + 3) + 1 := dp_tup fun x hx => (cas x hx).elim (fun m => by have := dp_mem m; omega) fun z => by rw [z]; omega
    exact this
  · have z1 := szA_at hd
    have z2 := h.ln
    rw [sz_tup, sz_tup, szA_app, szA_app, szA_one]
    omega
  · have e1 : ds.take i ++ [e] ++ ds.drop (i + 1) = ds.set i e := by
      rw [List.set_eq_take_append_cons_drop, if_pos (List.getElem?_eq_some_iff.mp hd).1, List.append_assoc]
      rfl
    rw [e1]
    exact .path hd h.sp
theorem Bt.small (hs : e.showable = true) (hd : e.depth ≤ 4) (hz : sz e ≤ 500) (hb : IB (B + 1) e) (ht : txOk e = true) (hr : rb 0 e = true) : Bt B d e := ⟨hs, by omega, by omega, hb, fun _ => ht, .at_ ⟨hr, hd⟩⟩
end
def Ch (d : PyData) : List (PyData × Nat) → PyData → Prop
  | [], x => x = d
  | (u, a) :: rp, x => (∃ us, u = .tuple us ∧ us[a]? = some x) ∧ Ch d rp u
def pD (p : PyData × Nat) : PyData := .tuple [p.1, .int (p.2 : Int)]
theorem DtA.reverse {F : Addr → Prop} {H : Hp} : ∀ {vs : List V} {ds : List PyData}, DtA F H vs ds → DtA F H vs.reverse ds.reverse
  | _, _, .nil => .nil
  | _, _, .cons h r => by
    (rw [List.reverse_cons, List.reverse_cons])
    exact r.reverse.append (.cons h .nil)
theorem ch_ok {B : Nat} {d : PyData} (hs : d.showable = true) (hb : IB B d) : ∀ {rp : List (PyData × Nat)} {x : PyData}, Ch d rp x → x.showable = true ∧ IB B x ∧ sz x ≤ sz d
  | [], x, h => by
    have e : x = d := h
    subst e
    exact ⟨hs, hb, Nat.le_refl _⟩
  | (u, a) :: rp, x, ⟨⟨us, e, hx⟩, h⟩ => by
    obtain ⟨h1, h2, h3⟩ := ch_ok hs hb h
    subst e
    have m := List.mem_of_getElem? hx
    refine ⟨sh_tup.mp h1 x m, ib_tup.mp h2 x m, ?_⟩
    have := szA_mem m
    rw [sz_tup] at h3
    omega
theorem for_rangeB {lo : Int} {n : Nat} {g : TG} {tb : TS} {D : Ends} {σ : L2.St} {H : Hp} (Pv : Nat → L2.St → Hp → Prop) (h0 : Pv 0 σ H) (hd : ∀ i σ H, i ≤ n → Pv i σ H → D.nx σ H)
    (hs : (∀ i σ H, i ≤ n → Pv i σ H → D.nx σ H) → ∀ i σ H, i < n → Pv i σ H → g (.int (lo + i)) σ H fun σ2 H2 => tb { D with nx := Pv (i + 1), ct := Pv (i + 1), bk := D.nx } σ2 H2) : ∃ W : Nat → Nat → L2.St → Hp → Prop, (∃ m, W 0 m σ H) ∧ ∀ i m σ H, W i m σ H →
      ((Itr lo n).stop i H ∧ D.nx σ H) ∨ ((Itr lo n).go i H ∧ ∃ N : L2.St → Hp → Prop, (∀ σ' H', N σ' H' → ∃ m', m' < m ∧ W (i + 1) m' σ' H') ∧ ∀ x H', (Itr lo n).yld i H x H' → g x σ H' fun σ2 H2 => tb { D with nx := N, ct := N, bk := D.nx } σ2 H2) :=
  for_range Pv h0 (hs hd) fun σ H => hd n σ H (Nat.le_refl _)
theorem Dt.ot {w : Addr} {H : Hp} {v : V} {d : PyData} (h : Dt (Nw w) H v d) : Dt (Ot [w]) H v d := h.move fun a o f e => ⟨fun z => f (List.mem_singleton.mp z), e⟩
theorem Dt.nwo {w : Addr} {S : List Addr} {H : Hp} {v : V} {d : PyData} (h : Dt (Ot S) H v d) (hw : w ∈ S) : Dt (Nw w) H v d := h.move fun a o f e => ⟨fun z => f (by rw [z]; exact hw), e⟩
theorem Kw.kp {w : Addr} {S : List Addr} {H H' : Hp} (k : Kw w H H') (hw : w ∈ S) : Kp S H H' := fun b o n e => k b o (fun z => n (by rw [z]; exact hw)) e
theorem Kp.kw {w : Addr} {H H' : Hp} (k : Kp [w] H H') : Kw w H H' := fun b o n e => k b o (fun z => n (List.mem_singleton.mp z)) e
end KB
namespace KB
open PySem L2 PySem.Spec PyProof.Rows
def Tst (t : TT) (σ : L2.St) (H : Hp) (b : Bool) : Prop := ∀ Q : Bool → Hp → Prop, Q b H → t σ H Q
section
variable {t u : TT} {σ : L2.St} {H : Hp} {x y : Bool} {A B R : TS} {D : Ends}
theorem tst_and (ha : Tst t σ H x) (hb : x = true → Tst u σ H y) : Tst (tAnd t u) σ H (x && y) := fun Q q => ha _ (by
  cases x with
  | true => exact ifT rfl (hb rfl Q q)
  | false => exact ifF rfl q)
theorem tst_or (ha : Tst t σ H x) (hb : x = false → Tst u σ H y) : Tst (tOr t u) σ H (x || y) := fun Q q => ha _ (by
  cases x with
  | true => exact ifT rfl q
  | false => exact ifF rfl (hb rfl Q q))
theorem tst_not (ha : Tst t σ H x) : Tst (tNot t) σ H (!x) := fun Q q => ha _ q
theorem tst_lt {i : Nat} {m n : Int} (h : σ[i]? = some (some (.int m))) : Tst (tTest (tOp (rI0 fun i j => V.bl (decide (i < j))) (tVar i) (tC (V.int n)))) σ H (decide (m < n)) := fun Q q => ⟨_, h, _, _, rfl, rfl, _, rfl, q⟩
theorem tst_eq {i : Nat} {m n : Int} (h : σ[i]? = some (some (.int m))) : Tst (tTest (tOp rEq (tVar i) (tC (V.int n)))) σ H (decide (m = n)) := fun Q q => ⟨_, h, rfl, _, rfl, by
  have e : decide (V.int m = V.int n) = decide (m = n) := by
    by_cases z : m = n
    · rw [decide_eq_true z, decide_eq_true (by rw [z])]
    · rw [decide_eq_false z, decide_eq_false fun y => z (V.int.inj y)]
  rw [e]
  exact q⟩
theorem seq_if (h : Tst t σ H x) (h1 : x = true → A { D with nx := R D } σ H) (h2 : x = false → B { D with nx := R D } σ H) : tSeq (tIfS t A B) R D σ H := h _ (by
  cases x with
  | true => exact ifT rfl (h1 rfl)
  | false => exact ifF rfl (h2 rfl))
theorem one_if (h : Tst t σ H x) (h1 : x = true → A D σ H) (h2 : x = false → B D σ H) : tIfS t A B D σ H := h _ (by
  cases x with
  | true => exact ifT rfl (h1 rfl)
  | false => exact ifF rfl (h2 rfl))
end
theorem any_words {ws : List Str} {i : Nat} {v : V} (h : (ws.map V.str)[i]? = some v) : ∃ x, v = .str x ∧ x ∈ ws := by
  rw [List.getElem?_map] at h
  cases e : ws[i]? with
  | none => (rw [e] at h; cases h)
  | some x => rw [e] at h; exact ⟨x, (Option.some.inj h).symm, List.mem_of_getElem? e⟩
mutual
def ibB (B : Nat) : PyData → Bool
  | .int i => decide (i.natAbs ≤ B)
  | .tuple ds => ibBA B ds
  | .list ds => ibBA B ds
  | .none => true
  | .bool _ => true
  | .str _ => true
  | .dict _ => true
def ibBA (B : Nat) : List PyData → Bool
  | [] => true
  | d :: ds => ibB B d && ibBA B ds
end
mutual
theorem ibB_ok {B : Nat} : ∀ {d : PyData}, ibB B d = true → IB B d
  | .int i, h => by rw [IB]; rw [ibB] at h; exact of_decide_eq_true h
  | .tuple ds, h => by rw [IB]; rw [ibB] at h; exact ibBA_ok h
  | .list ds, h => by rw [IB]; rw [ibB] at h; exact ibBA_ok h
  | .none, _ => by rw [IB]; exact True.intro
  | .bool _, _ => by rw [IB]; exact True.intro
  | .str _, _ => by rw [IB]; exact True.intro
  | .dict _, _ => by rw [IB]; exact True.intro
theorem ibBA_ok {B : Nat} : ∀ {ds : List PyData}, ibBA B ds = true → IBA B ds
  | [], _ => by rw [IBA]; exact True.intro
  | d :: ds, h => by
    rw [ibBA] at h
    rw [IBA]
    obtain ⟨h1, h2⟩ := Bool.and_eq_true_iff.mp h
    exact ⟨ibB_ok h1, ibBA_ok h2⟩
end
def lenZ : PyData → Bool
  | .tuple ds => decide (ds.length = 0)
  | _ => false
theorem isTup_of {d : PyData} (h : isTup d = true) : ∃ ds, d = .tuple ds := by
  cases d with
  | tuple ds => exact ⟨ds, rfl⟩
  | _ => cases h
theorem lenZ_of {F : Addr → Prop} {H : Hp} {xs : List V} {ds : List PyData} (r : DtA F H xs ds) : lenZ (.tuple ds) = decide (V.int (xs.length : Int) = V.int 0) := by
  show decide (ds.length = 0) = _
  rw [← r.length]
  by_cases z : xs.length = 0
  · rw [decide_eq_true z, decide_eq_true (by rw [z]; rfl)]
  · rw [decide_eq_false z, decide_eq_false fun y => z (by have := V.int.inj y; omega)]
def bentW : List Str := ["pair", "either", "fun", "list", "var", "b", "d", "left", "right", "first", "plus", "call", "cons", "<="]
theorem bentW_short : (bentW.all fun x => decide (sz (.str x) ≤ 10)) = true := by decide +kernel
def spBent : Sp := fun vs H Q _ => ∃ (w : Addr) (v : V) (d : PyData) (B : Nat) (c : Int), vs = [.ref w, v] ∧ Dt (Nw w) H v d ∧ d.showable = true ∧ sz d ≤ 4000000 ∧ IB B d ∧ bg ≤ B ∧ B ≤ bg + 9000 ∧ Wl H w c ∧ c + 3 < 2 ^ 60 ∧
  ∀ (v' : V) (e : PyData) (c' : Int) (H' : Hp), Dt (Nw w) H' v' e → Bt B d e → Kw w H H' → Wl H' w c' → c' ≤ c + 3 → Q v' H'
end KB
namespace KB
open PySem L2 PySem.Spec PyProof.Rows
def spSpo : Sp := fun vs H Q _ => ∃ (w : Addr) (v : V) (d : PyData) (B : Nat) (c : Int), vs = [.ref w, v] ∧ Dt (Nw w) H v d ∧ d.showable = true ∧ sz d ≤ 4000000 ∧ IB B d ∧ bg ≤ B ∧ B ≤ bg + 9000 ∧ Wl H w c ∧ c + 11 < 2 ^ 60 ∧
  ∀ (v' : V) (e : PyData) (c' : Int) (H' : Hp), Dt (Nw w) H' v' e → Bt B d e → Kw w H H' → Wl H' w c' → c' ≤ c + 11 → Q v' H'
end KB
namespace KB
open PySem L2 PySem.Spec PyProof.Rows
def LE (F : Addr → Prop) (te : TE) (σ : L2.St) (H : Hp) (d : PyData) : Prop := ∀ H1, Same H H1 → ∀ Q : VK, (∀ v H2, Same H1 H2 → Dt F H2 v d → Q v H2) → te σ H1 Q
def LA (F : Addr → Prop) (ta : TA) (σ : L2.St) (H : Hp) (ds : List PyData) : Prop := ∀ H1, Same H H1 → ∀ Q : List V → Hp → Prop, (∀ vs H2, Same H1 H2 → DtA F H2 vs ds → Q vs H2) → ta σ H1 Q
section
variable {F : Addr → Prop} {σ : L2.St} {H : Hp} {d : PyData} {ds : List PyData} {te : TE} {ta : TA}
theorem le_var {i : Nat} {v : V} (h : σ[i]? = some (some v)) (hd : Dt F H v d) : LE F (tVar i) σ H d := fun H1 s1 Q q => ⟨_, h, q v H1 (Same.refl H1) (hd.keep s1)⟩
theorem le_str (x : Str) : LE F (tC (.str x)) σ H (.str x) := fun H1 s1 Q q => q _ H1 (Same.refl H1) (.str x)
theorem le_int (i : Int) : LE F (tC (.int i)) σ H (.int i) := fun H1 s1 Q q => q _ H1 (Same.refl H1) (.int i)
theorem la_nil : LA F tNil σ H [] := fun H1 s1 Q q => q _ H1 (Same.refl H1) .nil
theorem la_cons (h : LE F te σ H d) (r : LA F ta σ H ds) : LA F (tCons te ta) σ H (d :: ds) := fun H1 s1 Q q =>
  h H1 s1 _ fun v H2 s2 dv => r H2 (s1.trans s2) _ fun vs H3 s3 da => q _ H3 (s2.trans s3) (.cons (dv.keep s3) da)
theorem le_tup (hF : ∀ p, H p = none → F p) (h : LA F ta σ H ds) (hz : ds.length ≤ 1000) : LE F (tTup ta) σ H (.tuple ds) := fun H1 s1 Q q =>
  h H1 s1 _ fun vs H2 s2 da => ⟨Nat.le_of_lt (small1000 (by rw [da.length]; exact hz)), fun p np => q _ _ (s2.trans (Same.new np)) (layD (fun c hc => hF c ((s1.trans s2).free hc)) np da)⟩
theorem par3 {i j l : Nat} {D : Ends} {x y z : PyData} (h : LA F ta σ H [x, y, z]) (q : ∀ a b c H1, Same H H1 → Dt F H1 a x → Dt F H1 b y → Dt F H1 c z → D.nx (((σ.set i (some a)).set j (some b)).set l (some c)) H1) : tPar3 i j l ta D σ H :=
  h H (Same.refl H) _ fun vs H1 s1 da => (by
    obtain ⟨a, b, c, rfl, d1, d2, d3⟩ := da.three
    exact ⟨a, b, c, rfl, q a b c H1 s1 d1 d2 d3⟩)
end
theorem vv_show {N : Nat} (hN : 10 * N ≤ 10000) {k : Kd} {d : PyData} (h : VV N k d) : d.showable = true := by
  induction h with
  | num i hi => exact int_shows hN hi
  | unit => simp only [PyData.showable, PyData.showableAll]
  | lst hl h ih => exact sh_tup.mpr ih
  | pair hx hy ihx ihy => simp only [PyData.showable, PyData.showableAll, ihx, ihy, Bool.and_self]
  | left hx ih => simp only [PyData.showable, PyData.showableAll, ih, Bool.and_self]
  | right hx ih => simp only [PyData.showable, PyData.showableAll, ih, Bool.and_self]
structure Tw (k : Kd) (d e : PyData) (i : Nat) : Prop where
  cl : k.closed = true
  nf : k.noFn = true
  dp : k.dep ≤ i + 1
  kz : k.kz ≤ 2 * i + 1
  v1 : VV 4 k d
  v2 : VV 4 k e
  z1 : sz d ≤ 40 * i + 320
  z2 : sz e ≤ 40 * i + 320
theorem tw_lst {k : Kd} {d e : PyData} {i : Nat} (h : Tw k d e i) : Tw (.lst k) (.tuple [d]) (.tuple [e]) (i + 1) := by
  have h1 := h.dp; have h2 := h.kz; have h3 := h.z1; have h4 := h.z2
  refine ⟨h.cl, h.nf, by show k.dep + 1 ≤ _; omega, by show k.kz + 1 ≤ _; omega, .lst (by show 1 ≤ 4; decide) fun x hx => by rw [List.mem_singleton.mp hx]; exact h.v1, .lst (by show 1 ≤ 4; decide) fun x hx => by rw [List.mem_singleton.mp hx]; exact h.v2, by rw [sz_tup, szA_one]; omega, by rw [sz_tup, szA_one]; omega⟩
theorem sz_int0 : sz (.int 0) ≤ 2 := by decide +kernel
theorem sz_int1 : sz (.int 1) ≤ 2 := by decide +kernel
theorem sz_unit0 : sz (.tuple []) = 3 := by decide +kernel
theorem tw_pairN {k : Kd} {d e : PyData} {i : Nat} (h : Tw k d e i) : Tw (.pair k .num) (.tuple [.str "pair", d, .int 0]) (.tuple [.str "pair", e, .int 1]) (i + 1) := by
  have h1 := h.dp; have h2 := h.kz; have h3 := h.z1; have h4 := h.z2; have z0 := sz_int0; have z1 := sz_int1; have zw := sz_word "pair" (by decide +kernel)
  refine ⟨by show (k.closed && true) = true; rw [h.cl]; rfl, by show (k.noFn && true) = true; rw [h.nf]; rfl, by show max k.dep 1 + 1 ≤ _; omega, by show k.kz + 1 + 1 ≤ _; omega, .pair h.v1 (.num 0 (Nat.zero_le _)), .pair h.v2 (.num 1 (Nat.le_trans (by decide : 1 ≤ 10 * 4) (Nat.le_add_left _ _))), ?_, ?_⟩
  · rw [sz_tup, szA, szA, szA, szA]; omega
  · rw [sz_tup, szA, szA, szA, szA]; omega
theorem tw_pairU {k : Kd} {d e : PyData} {i : Nat} (h : Tw k d e i) : Tw (.pair .unit k) (.tuple [.str "pair", .tuple [], d]) (.tuple [.str "pair", .tuple [], e]) (i + 1) := by
  have h1 := h.dp; have h2 := h.kz; have h3 := h.z1; have h4 := h.z2; have z0 := sz_unit0; have zw := sz_word "pair" (by decide +kernel)
  refine ⟨by show (true && k.closed) = true; rw [h.cl]; rfl, by show (true && k.noFn) = true; rw [h.nf]; rfl, by show max 1 k.dep + 1 ≤ _; omega, by show 1 + k.kz + 1 ≤ _; omega, .pair .unit h.v1, .pair .unit h.v2, ?_, ?_⟩
  · rw [sz_tup, szA, szA, szA, szA]; omega
  · rw [sz_tup, szA, szA, szA, szA]; omega
theorem tw_left {k : Kd} {d e : PyData} {i : Nat} (h : Tw k d e i) : Tw (.eith k .num) (.tuple [.str "left", d]) (.tuple [.str "left", e]) (i + 1) := by
  have h1 := h.dp; have h2 := h.kz; have h3 := h.z1; have h4 := h.z2; have zw := sz_word "left" (by decide +kernel)
  refine ⟨by show (k.closed && true) = true; rw [h.cl]; rfl, by show (k.noFn && true) = true; rw [h.nf]; rfl, by show max k.dep 1 + 1 ≤ _; omega, by show k.kz + 1 + 1 ≤ _; omega, .left h.v1, .left h.v2, ?_, ?_⟩
  · rw [sz_tup, szA, szA, szA]; omega
  · rw [sz_tup, szA, szA, szA]; omega
theorem tw_right {k : Kd} {d e : PyData} {i : Nat} (h : Tw k d e i) : Tw (.eith .unit k) (.tuple [.str "right", d]) (.tuple [.str "right", e]) (i + 1) := by
  have h1 := h.dp; have h2 := h.kz; have h3 := h.z1; have h4 := h.z2; have zw := sz_word "right" (by decide +kernel)
  refine ⟨by show (true && k.closed) = true; rw [h.cl]; rfl, by show (true && k.noFn) = true; rw [h.nf]; rfl, by show max 1 k.dep + 1 ≤ _; omega, by show 1 + k.kz + 1 ≤ _; omega, .right h.v1, .right h.v2, ?_, ?_⟩
  · rw [sz_tup, szA, szA, szA]; omega
  · rw [sz_tup, szA, szA, szA]; omega
def spTow : Sp := fun vs H Q _ => ∃ (w : Addr) (c : Int), vs = [.ref w] ∧ Wl H w c ∧ c + 40 < 2 ^ 60 ∧
  ∀ (a : Addr) (kv v1 v2 : V) (k : Kd) (d e : PyData) (c' : Int) (H' : Hp), H' a = some (.tup [kv, v1, v2]) → Dt (Nw w) H' kv k.d → Dt (Nw w) H' v1 d → Dt (Nw w) H' v2 e → Tw k d e 99 → Kw w H H' → Wl H' w c' → c' ≤ c + 40 → Q (.ref a) H'
end KB
namespace KB
open PySem L2 PySem.Spec PyProof.Rows
section
variable {X : Cx} {CX : CXT} {k : Nat} {f : Addr} {fd : FuncData} {ps ks : List Str} {sp : Sp} {E : XK} {x : Str} {p pos : Pos} {kws : List Keyword} {tk : TA} {g : List Value → List Value → List Value} {gV : List V → List V → List V}
theorem pe_callK0 (F : FnOk X.prog X.w X.K X.mg X.base CX k f fd ps sp) (hr : Room k X.A) (hg : Gl X x) (hm : X.mg x = some (.ref f)) (hk : PySem.W.keepIn X.K (.ref f) = true) (hb : KBinds X.K fd ps ks g gV) (hx : Passes CX X E)
    (hkw : PK X kws tk) (hall : (backToKw pos (keywordEach kws X.env)).all (·.1.isSome) = true := by rfl) (hks : (backToKw pos (keywordEach kws X.env)).filterMap (·.1) = ks := by rfl)
    (hdb : (x == ("__debug__" : Str)) = false := by decide) (hpl : ((backTo pos (starEach [] X.env)).any (·.1) || (backToKw pos (keywordEach kws X.env)).any (·.1.isNone)) = false := by rfl) :
    PE X (.Call (.Name x p) [] kws pos) (fun σ H Q => tk σ H fun zs H2 => sp (gV [] zs) H2 Q E) :=
  ⟨fun pins s σ H Q I h => wpAny_Call_Name_kw (ld_glob I hg hm
    (PySem.W.callWith_KW0 (h₀ := X.base) I.ok.mod.kin hk hall (thn (hkw.run pos pins s σ H _ I h) fun ws s2 ⟨zs, H2, I2, rz, q2⟩ => ⟨I2.kIn, by
      rw [hks]
      exact run_fnk F hr hb hx I2 .nil rz q2⟩) hpl) hdb)⟩
theorem kb_of {K : PySem.W.Frag} {qual : Str} {params : Arguments} {body : List Stmt} {scope : Scope} (F : FunD K x qual params body scope [] [] f fd)
    (hb : ∀ (kV doc pm : Value) (an : Option Addr) (cdv ct : Value) (us ws : List Value), (g us ws).length = ps.length → bindArgs (PySem.W.fnOf x qual params body scope .none kV doc pm an cdv ct) ⟨us, ks.zip ws⟩ = pure (ps.zip (g us ws)))
    (hr : ∀ {vs : List V} {us : List Value} {zs : List V} {ws : List Value}, Vals vs us → Vals zs ws → Vals (gV vs zs) (g us ws)) : KBinds K fd ps ks g gV := by
  (obtain ⟨oc, od, dV, kV, doc, pm, an, cdv, ct, osl, rfl, lk, hcd, hD, hK⟩ := F.ex)
  (rcases hD with ⟨_, rfl⟩ | ⟨e, _⟩)
  · exact ⟨fun s us ws _ hl => .of_eq (hb kV doc pm an cdv ct us ws hl), hr⟩
  · exact absurd rfl e
end
def g3 {α : Type} (us ws : List α) : List α := match us, ws with
  | [], [k, t, o] => [k, o, t]
  | _, _ => []
def g2 {α : Type} (us ws : List α) : List α := match us, ws with
  | [], [v, k] => [k, v]
  | _, _ => []
theorem g3_rel {vs : List V} {us : List Value} {zs : List V} {ws : List Value} (r : Vals vs us) (q : Vals zs ws) : Vals (g3 vs zs) (g3 us ws) := by
  cases r with
  | cons _ _ => exact .nil
  | nil =>
    cases q with
    | nil => exact .nil
    | cons a q => cases q with
      | nil => exact .nil
      | cons b q => cases q with
        | nil => exact .nil
        | cons c q => cases q with
          | nil => exact .cons a (.cons c (.cons b .nil))
          | cons _ _ => exact .nil
theorem g2_rel {vs : List V} {us : List Value} {zs : List V} {ws : List Value} (r : Vals vs us) (q : Vals zs ws) : Vals (g2 vs zs) (g2 us ws) := by
  cases r with
  | cons _ _ => exact .nil
  | nil =>
    cases q with
    | nil => exact .nil
    | cons a q => cases q with
      | nil => exact .nil
      | cons b q => cases q with
        | nil => exact .cons b (.cons a .nil)
        | cons c q => exact .nil
def rReprL : List V → Hp → VK → Prop := fun xs H Q => ∃ (F : Addr → Prop) (v : V) (d : PyData), xs = [v] ∧ Dt F H v d ∧ d.showable = true ∧ d.depth ≤ 180 ∧ sz d ≤ 10000000 ∧ Q (.str d.shown) H
theorem call_reprL {X : Cx} {k : Nat} (hS : SysIn X.K) (hg : X.A.guards = some []) (hr : Room k X.A) : CallR X (.builtin "repr") rReprL := by
  (intro pins s σ H xs us Q I r h)
  obtain ⟨F, v, d, rfl, hd, sh, dp, zz, q⟩ := h
  have ln : d.shown.length ≤ sizeLine := Nat.le_trans (sz_shown d) (Nat.le_trans zz (by decide))
  (obtain ⟨u, rfl, ru⟩ := vals1 r)
  obtain ⟨as, rd, hn⟩ := hd.reads I hS ru
  have room := hr.un
  cases rd with
  | none =>
    simp only [PyData.shown] at q
    exact PySem.P.repr_of_none ⟨.str _, H, I.tok _, ⟨_, rfl⟩, q⟩
  | bool b =>
    simp only [PyData.shown] at q
    exact PySem.P.repr_of_bool ⟨.str _, H, I.tok _, ⟨_, rfl⟩, q⟩
  | int i t =>
    simp only [PyData.shown] at q
    exact PySem.P.repr_of_int (by simpa [PyData.showable] using sh) ⟨.str _, H, I.tok _, ⟨_, rfl⟩, q⟩
  | str x t =>
    simp only [PyData.shown] at q ln
    exact PySem.P.repr_of_str ⟨.str _, H, I.tok _, ⟨_, rfl⟩, q⟩ ln
  | list h1 h2 h3 h4 => exact repr_of_reads' (.list h1 h2 h3 h4) sh (fun _ => hn) hg (by omega) (fun _ _ e => e) (fun h' u tk k => ⟨.str _, H, I.kept k, ⟨_, rfl⟩, q⟩) ln
  | tuple h1 h2 h3 h4 => exact repr_of_reads' (.tuple h1 h2 h3 h4) sh (fun _ => hn) hg (by omega) (fun _ _ e => e) (fun h' u tk k => ⟨.str _, H, I.kept k, ⟨_, rfl⟩, q⟩) ln
  | dict h1 h2 h3 h4 h5 => exact repr_of_reads' (.dict h1 h2 h3 h4 h5) sh (fun _ => hn) hg (by omega) (fun _ _ e => e) (fun h' u tk k => ⟨.str _, H, I.kept k, ⟨_, rfl⟩, q⟩) ln
def HasG (P : Program) (w : World) (K : PySem.W.Frag) (mg : Str → Option Value) (base : Heap) (x : Str) (ps : List Str) (k : Nat) (sp : Sp) : Prop :=
  ∃ (f : Addr) (fd : FuncData), PySem.W.keepIn K (.ref f) = true ∧ mg x = some (.ref f) ∧ Binds K fd ps [] ∧ FnG P w K mg base k f fd ps sp
def spSame : Sp := fun vs H Q _ => ∃ (F : Addr → Prop) (x y : V) (d : PyData), vs = [x, y] ∧ Dt F H x d ∧ Dt F H y d ∧ d.showable = true ∧ d.depth ≤ 180 ∧ sz d ≤ 10000000 ∧ Q (.bl true) H
structure Cv (k : Kd) (d : PyData) : Prop where
  v : VV 500 k d
  z : sz d ≤ 10000000
structure Ck0 (k : Kd) : Prop where
  cl : k.closed = true
  nf : k.noFn = true
  dp : k.dep ≤ 100
  kz : k.kz ≤ 10000
def spAo : Sp := fun vs H Q _ => ∃ (F : Addr → Prop) (kv : V) (L : Addr) (b : Bool) (k : Kd) (xs : List V) (ds : List PyData), vs = [kv, .ref L, .bl b] ∧ Dt F H kv k.d ∧ Ck0 k ∧ H L = some (.lst xs) ∧ DtA F H xs ds ∧ (∀ d ∈ ds, Cv k d) ∧ ∀ H', Same H H' → Q (.bl true) H'
theorem cm_small {k : Kd} {d e : PyData} {r : Int} (h : Cm k d e r) : (PyData.int r).showable = true ∧ (PyData.int r).depth ≤ 180 ∧ sz (.int r) ≤ 10000000 := by
  rcases cm_range h with rfl | rfl | rfl
  · exact ⟨by decide +kernel, by decide +kernel, by decide +kernel⟩
  · exact ⟨by decide +kernel, by decide +kernel, by decide +kernel⟩
  · exact ⟨by decide +kernel, by decide +kernel, by decide +kernel⟩
end KB
namespace KB
open PySem L2 PySem.Spec PyProof.Rows
structure Jt (e : PyData) : Prop where
  sh : e.showable = true
  dp : e.depth ≤ 180
  z : sz e ≤ 10000000
structure Jv (k : Kd) (d : PyData) : Prop where
  v : VV 500 k d
  z : sz d ≤ 900000
theorem two_bools (b : Bool) : (PyData.list [.bool b, .bool b]).showable = true ∧ (PyData.list [.bool b, .bool b]).depth ≤ 180 ∧ sz (.list [.bool b, .bool b]) ≤ 10000000 := by
  cases b
  · exact ⟨by decide +kernel, by decide +kernel, by decide +kernel⟩
  · exact ⟨by decide +kernel, by decide +kernel, by decide +kernel⟩
def spAj : Sp := fun vs H Q _ => ∃ (w : Addr) (kv : V) (L : Addr) (k : Kd) (xs : List V) (ds : List PyData) (c : Int), vs = [.ref w, kv, .ref L] ∧ Dt (Nw w) H kv k.d ∧ Ck0 k ∧ H L = some (.lst xs) ∧ L ≠ w ∧ DtA (Nw w) H xs ds ∧ ds.length ≤ 3 ∧ (∀ d ∈ ds, Jv k d) ∧ Wl H w c ∧ c + 120 < 2 ^ 60 ∧
  ∀ (c' : Int) (H' : Hp), Kw w H H' → Wl H' w c' → c' ≤ c + 120 → Q (.bl true) H'
end KB
namespace KB
open PySem L2 PySem.Spec PyProof.Rows
theorem fnok_ex {P : Program} {w : World} {K : PySem.W.Frag} {mg : Str → Option Value} {base : Heap} {CX : CXT} {k N : Nat} {f : Addr} {fd : FuncData} {ps : List Str} {sp : Nat → Sp} (F : ∀ n, n ≤ N → FnOk P w K mg base CX k f fd ps (sp n)) :
    FnOk P w K mg base CX k f fd ps (fun vs H Q E => ∃ n, n ≤ N ∧ sp n vs H Q E) :=
  ⟨fun vs H Q E ⟨n, hn, h⟩ => (F n hn).len vs H Q E h, fun A outer s H args us vs Q E hr e0 hb hv ⟨n, hn, h⟩ => (F n hn).run A outer s H args us vs Q E hr e0 hb hv h⟩
theorem dta_map {F G : Addr → Prop} {H : Hp} : ∀ {vs : List V} {ds : List PyData}, DtA F H vs ds → (∀ d ∈ ds, ∀ v, Dt F H v d → Dt G H v d) → DtA G H vs ds
  | _, _, .nil, _ => .nil
  | _, _, .cons h r, k => .cons (k _ List.mem_cons_self _ h) (dta_map r fun d hd => k d (List.mem_cons_of_mem _ hd))
theorem vv_off {N : Nat} {F : Addr → Prop} {H : Hp} {L : Addr} {ys : List V} (hL : H L = some (.lst ys)) {k : Kd} {d : PyData} (h : VV N k d) : ∀ {v : V}, Dt F H v d → Dt (fun a => F a ∧ a ≠ L) H v d := by
  have ne : ∀ {a : Addr} {xs : List V}, H a = some (.tup xs) → a ≠ L := fun ha z => by
    rw [z, hL] at ha
    cases ha
  induction h with
  | num i hi =>
    intro v h
    rw [h.intI]
    exact .int i
  | unit =>
    intro v h
    obtain ⟨a, xs, rfl, f, ha, r⟩ := h.tupI
    cases r
    exact .tup ⟨f, ne ha⟩ ha .nil
  | lst hl h ih =>
    intro v h
    obtain ⟨a, xs, rfl, f, ha, r⟩ := h.tupI
    exact .tup ⟨f, ne ha⟩ ha (dta_map r fun d hd v hv => ih d hd hv)
  | pair hx hy ihx ihy =>
    intro v h
    obtain ⟨a, xs, rfl, f, ha, r⟩ := h.tupI
    obtain ⟨x0, x1, x2, rfl, e0, e1, e2⟩ := r.three
    rw [e0.strI] at ha
    exact .tup ⟨f, ne ha⟩ ha (.cons (.str _) (.cons (ihx e1) (.cons (ihy e2) .nil)))
  | left hx ih =>
    intro v h
    obtain ⟨a, xs, rfl, f, ha, r⟩ := h.tupI
    obtain ⟨x0, x1, rfl, e0, e1⟩ := r.two
    rw [e0.strI] at ha
    exact .tup ⟨f, ne ha⟩ ha (.cons (.str _) (.cons (ih e1) .nil))
  | right hx ih =>
    intro v h
    obtain ⟨a, xs, rfl, f, ha, r⟩ := h.tupI
    obtain ⟨x0, x1, rfl, e0, e1⟩ := r.two
    rw [e0.strI] at ha
    exact .tup ⟨f, ne ha⟩ ha (.cons (.str _) (.cons (ih e1) .nil))
theorem vv_two {N : Nat} {H : Hp} {L w : Addr} {ys : List V} (hL : H L = some (.lst ys)) {k : Kd} {d : PyData} (h : VV N k d) {v : V} (hv : Dt (Nw w) H v d) : Dt (Ot [L, w]) H v d :=
  (vv_off hL h hv).move fun a o f e => ⟨fun z => by
    (rcases (List.mem_cons.mp z) with z | z)
    · exact f.2 z
    · exact f.1 (List.mem_singleton.mp z), e⟩
theorem Dt.nwt {w : Addr} {S : List Addr} {H : Hp} {v : List V} {d : List PyData} (h : DtA (Ot S) H v d) (hw : w ∈ S) : DtA (Nw w) H v d := h.move fun a o f e => ⟨fun z => f (by rw [z]; exact hw), e⟩
theorem cut2 {a b : V} {r : List V} : cutV (a :: b :: r) none (some 2) = [a, b] := by
  unfold cutV
  rw [show ((2 : Int)) = ((2 : Nat) : Int) from rfl, HT.sIx_nat, HT.sIx_none, List.drop_zero, Nat.sub_zero, Nat.min_eq_left (by simp)]
  rfl
theorem cut1 {a : V} {r : List V} : cutV (a :: r) none (some 1) = [a] := by
  unfold cutV
  rw [show ((1 : Int)) = ((1 : Nat) : Int) from rfl, HT.sIx_nat, HT.sIx_none, List.drop_zero, Nat.sub_zero, Nat.min_eq_left (by simp)]
  rfl
theorem ck5 : ∀ n : Nat, n ≤ 5 → Ck n ≤ 126
  | 0, _ => by decide
  | 1, _ => by decide
  | 2, _ => by decide
  | 3, _ => by decide
  | 4, _ => by decide
  | 5, _ => by decide
  | n + 6, h => by omega
theorem vc5 : VC 5 ≤ 13280 := by decide
theorem vc2 : VC 2 ≤ 105 := by decide
theorem nc5 : NC 5 ≤ 4000 := by decide
theorem vl5 : VL 5 ≤ 900000 := by decide
theorem vl2 : VL 2 ≤ 5000 := by decide
theorem bz7 : BZ 7 4 ≤ 10000000 := by decide
theorem bz61 : BZ 61 2 ≤ 10000000 := by decide
theorem kz5 {k : Kd} (h : k.dep ≤ 5) : k.kz ≤ 10000 := by
  have h1 := Kd.kz_dep k
  have h2 : 2 ^ k.dep ≤ 2 ^ 5 := Nat.pow_le_pow_right (by decide) h
  have h3 : (2 : Nat) ^ 5 = 32 := by decide
  omega
def spOne : Sp := fun vs H Q _ => ∃ (w : Addr) (c : Int), vs = [.ref w] ∧ Wl H w c ∧ c + 200000 < 2 ^ 60 ∧ ∀ H' : Hp, Kw w H H' → Q (.bl true) H'
end KB
namespace KB
open PySem L2 PySem.Spec PyProof.Rows
def hd (m : Nat) (ws : List Str) : PyData → Bool
  | .tuple (x :: ds) => decide (ds.length + 1 = m) && txB x ws
  | _ => false
def isF : PyData → Bool
  | .tuple [x] => txB x ["unit", "num"]
  | .tuple [x, y] => if txB x ["var"] then txB y ["a", "b", "c"] else txB x ["list"] && isF y
  | .tuple [x, y, z] => txB x ["pair", "either", "fun"] && (isF y && isF z)
  | _ => false
def Kd.okv : Kd → Bool
  | num => true
  | unit => true
  | var x => (["a", "b", "c"] : List Str).contains x
  | lst a => a.okv
  | pair a b => a.okv && b.okv
  | eith a b => a.okv && b.okv
  | fn a b => a.okv && b.okv
theorem txB_str {d : PyData} {ws : List Str} (h : txB d ws = true) : ∃ x, d = .str x ∧ x ∈ ws := by
  cases d with
  | str x => exact ⟨x, rfl, by simpa using (show ws.contains x = true from h)⟩
  | _ => cases h
theorem isF_d : ∀ k : Kd, k.okv = true → isF k.d = true
  | .num, _ => by rw [Kd.d, isF]; rfl
  | .unit, _ => by rw [Kd.d, isF]; rfl
  | .var x, h => by rw [Kd.d, isF]; exact (if_pos (by rfl)).trans h
  | .lst a, h => by rw [Kd.d, isF, isF_d a h]; rfl
  | .pair a b, h => by
    obtain ⟨h1, h2⟩ := Bool.and_eq_true_iff.mp (show (a.okv && b.okv) = true from h)
    rw [Kd.d, isF, isF_d a h1, isF_d b h2]; rfl
  | .eith a b, h => by
    obtain ⟨h1, h2⟩ := Bool.and_eq_true_iff.mp (show (a.okv && b.okv) = true from h)
    rw [Kd.d, isF, isF_d a h1, isF_d b h2]; rfl
  | .fn a b, h => by
    obtain ⟨h1, h2⟩ := Bool.and_eq_true_iff.mp (show (a.okv && b.okv) = true from h)
    rw [Kd.d, isF, isF_d a h1, isF_d b h2]; rfl
theorem isF_ok (d : PyData) (h : isF d = true) : ∃ k : Kd, k.d = d ∧ k.okv = true := by
  match d, h with
  | .tuple [x], h =>
    rw [isF] at h
    obtain ⟨s, rfl, m⟩ := txB_str h
    rcases List.mem_cons.mp m with e | m
    · rw [e]; exact ⟨.unit, rfl, rfl⟩
    · rw [List.mem_singleton.mp m]; exact ⟨.num, rfl, rfl⟩
  | .tuple [x, y], h =>
    rw [isF] at h
    by_cases hv : txB x ["var"] = true
    · rw [if_pos hv] at h
      obtain ⟨s, rfl, m⟩ := txB_str hv
      obtain ⟨z, rfl, mz⟩ := txB_str h
      rw [List.mem_singleton.mp m]
      exact ⟨.var z, rfl, by rw [Kd.okv]; simpa using mz⟩
    · rw [if_neg hv] at h
      obtain ⟨h1, h2⟩ := Bool.and_eq_true_iff.mp h
      obtain ⟨s, rfl, m⟩ := txB_str h1
      obtain ⟨k, e, o⟩ := isF_ok y h2
      rw [List.mem_singleton.mp m]
      exact ⟨.lst k, by rw [Kd.d, e], o⟩
  | .tuple [x, y, z], h =>
    rw [isF] at h
    obtain ⟨h1, h2⟩ := Bool.and_eq_true_iff.mp h
    obtain ⟨h3, h4⟩ := Bool.and_eq_true_iff.mp h2
    obtain ⟨s, rfl, m⟩ := txB_str h1
    obtain ⟨a, ea, oa⟩ := isF_ok y h3
    obtain ⟨b, eb, ob⟩ := isF_ok z h4
    rcases List.mem_cons.mp m with e | m
    · rw [e]; exact ⟨.pair a b, by rw [Kd.d, ea, eb], by rw [Kd.okv, oa, ob]; rfl⟩
    · rcases List.mem_cons.mp m with e | m
      · rw [e]; exact ⟨.eith a b, by rw [Kd.d, ea, eb], by rw [Kd.okv, oa, ob]; rfl⟩
      · rw [List.mem_singleton.mp m]; exact ⟨.fn a b, by rw [Kd.d, ea, eb], by rw [Kd.okv, oa, ob]; rfl⟩
theorem isF_step (d : PyData) : isF d = (if hd 2 ["var"] d then (match d with | .tuple [_, y] => txB y ["a", "b", "c"] | _ => false) else if hd 2 ["list"] d then (match d with | .tuple [_, y] => isF y | _ => false) else
    if hd 3 ["pair", "either", "fun"] d then (match d with | .tuple [_, y, z] => isF y && isF z | _ => false) else hd 1 ["unit", "num"] d) := by
  match d with
  | .tuple [] => rw [isF]; rfl; all_goals (intros; rename_i z; cases z)
  | .tuple [x] => rw [isF]; simp [hd]
  | .tuple [x, y] =>
    rw [isF]
    by_cases hv : txB x ["var"] = true
    · simp [hd, hv]
    · simp only [hd, hv]
      by_cases hl : txB x ["list"] = true <;> simp [hl]
  | .tuple [x, y, z] =>
    rw [isF]
    by_cases hv : txB x ["pair", "either", "fun"] = true <;> simp [hd, hv]
  | .tuple (x :: y :: z :: u :: r) =>
    rw [isF]
    · simp [hd]
    all_goals (intros; rename_i z; cases z)
  | .none => rfl
  | .bool _ => rfl
  | .int _ => rfl
  | .str _ => rfl
  | .list _ => rfl
  | .dict _ => rfl
end KB
namespace KB
open PySem L2 PySem.Spec PyProof.Rows
def spHd (K : PySem.W.Frag) : Sp := fun vs H Q _ => ∃ (F : Addr → Prop) (v : V) (d : PyData) (m : Nat) (t : Addr) (ws : List Str), vs = [v, .int m, .ref t] ∧ 1 ≤ m ∧ Dt F H v d ∧ SqT K H t (ws.map V.str) ∧ Q (.bl (hd m ws d)) H
def spFo (n : Nat) : Sp := fun vs H Q _ => ∃ (F : Addr → Prop) (v : V) (d : PyData), vs = [v] ∧ Dt F H v d ∧ d.depth ≤ n ∧ ∀ H', Same H H' → Q (.bl (isF d)) H'
theorem hd_none {m : Nat} {ws : List Str} {d : PyData} (h : isTup d = false) : hd m ws d = false := by
  cases d <;> first | rfl | cases h
theorem hd_two {ws : List Str} {d : PyData} (h : hd 2 ws d = true) : ∃ s y, d = .tuple [.str s, y] ∧ s ∈ ws := by
  cases d with
  | tuple ds =>
    rcases ds with _ | ⟨x, _ | ⟨y, _ | ⟨z, r⟩⟩⟩ <;> first | (simp [hd] at h; done) | skip
    obtain ⟨_, h2⟩ := Bool.and_eq_true_iff.mp (show (decide ([y].length + 1 = 2) && txB x ws) = true from h)
    obtain ⟨s, rfl, m⟩ := txB_str h2
    exact ⟨s, y, rfl, m⟩
  | _ => cases h
theorem hd_three {ws : List Str} {d : PyData} (h : hd 3 ws d = true) : ∃ s y z, d = .tuple [.str s, y, z] ∧ s ∈ ws := by
  cases d with
  | tuple ds =>
    rcases ds with _ | ⟨x, _ | ⟨y, _ | ⟨z, _ | ⟨u, r⟩⟩⟩⟩ <;> first | (simp [hd] at h; done) | skip
    obtain ⟨_, h2⟩ := Bool.and_eq_true_iff.mp (show (decide ([y, z].length + 1 = 3) && txB x ws) = true from h)
    obtain ⟨s, rfl, m⟩ := txB_str h2
    exact ⟨s, y, z, rfl, m⟩
  | _ => cases h
theorem dep_mem {d : PyData} : ∀ {ds : List PyData}, d ∈ ds → d.depth ≤ PyData.depthAll ds
  | e :: ds, h => by
    simp only [PyData.depthAll]
    rcases List.mem_cons.mp h with h | h
    · rw [h]; exact Nat.le_max_left _ _
    · exact Nat.le_trans (dep_mem h) (Nat.le_max_right _ _)
theorem dep_part {d : PyData} {ds : List PyData} {n : Nat} (h : (PyData.tuple ds).depth ≤ n + 1) (m : d ∈ ds) : d.depth ≤ n := by
  have := dep_mem m
  simp only [PyData.depth] at h
  omega
theorem dep_tup {ds : List PyData} {n : Nat} (h : (PyData.tuple ds).depth ≤ n) : ∃ m, n = m + 1 := by
  simp only [PyData.depth] at h
  exact ⟨n - 1, by omega⟩
end KB
namespace KB
open PySem L2 PySem.Spec PyProof.Rows
def spDe (n : Nat) : Sp := fun vs H Q _ => ∃ (F : Addr → Prop) (v : V) (k : Kd), vs = [v] ∧ Dt F H v k.d ∧ k.dep ≤ n ∧ ∀ H', Same H H' → Q (.int k.dep) H'
def Kd.wl : Kd → List Str
  | num => ["num"]
  | unit => ["unit"]
  | var x => [x]
  | lst a => "list" :: a.wl
  | pair a b => "pair" :: (a.wl ++ b.wl)
  | eith a b => "either" :: (a.wl ++ b.wl)
  | fn a b => "fun" :: (a.wl ++ b.wl)
def Kd.isVar : Kd → Bool
  | var _ => true
  | _ => false
theorem Kd.wl_len : ∀ k : Kd, k.wl.length = k.kz
  | .num => rfl
  | .unit => rfl
  | .var _ => rfl
  | .lst a => by simp [Kd.wl, Kd.kz, Kd.wl_len a]
  | .pair a b => by simp [Kd.wl, Kd.kz, Kd.wl_len a, Kd.wl_len b]
  | .eith a b => by simp [Kd.wl, Kd.kz, Kd.wl_len a, Kd.wl_len b]
  | .fn a b => by simp [Kd.wl, Kd.kz, Kd.wl_len a, Kd.wl_len b]
theorem Kd.d_eqv : ∀ {k : Kd}, k.isVar = false → k.d = .tuple (.str k.word :: k.kids.map Kd.d) ∧ k.wl = k.word :: (k.kids.map Kd.wl).flatten
  | .num, _ => ⟨rfl, rfl⟩
  | .unit, _ => ⟨rfl, rfl⟩
  | .var _, h => by cases h
  | .lst a, _ => ⟨rfl, by simp [Kd.wl, Kd.kids, Kd.word]⟩
  | .pair a b, _ => ⟨rfl, by simp [Kd.wl, Kd.kids, Kd.word]⟩
  | .eith a b, _ => ⟨rfl, by simp [Kd.wl, Kd.kids, Kd.word]⟩
  | .fn a b, _ => ⟨rfl, by simp [Kd.wl, Kd.kids, Kd.word]⟩
theorem Kd.word_var : ∀ {k : Kd}, k.isVar = false → k.word ≠ "var"
  | .num, _ => by show ("num" : Str) ≠ "var"; decide
  | .unit, _ => by show ("unit" : Str) ≠ "var"; decide
  | .var x, h => by cases h
  | .lst a, _ => by show ("list" : Str) ≠ "var"; decide
  | .pair a b, _ => by show ("pair" : Str) ≠ "var"; decide
  | .eith a b, _ => by show ("either" : Str) ≠ "var"; decide
  | .fn a b, _ => by show ("fun" : Str) ≠ "var"; decide
theorem Kd.kids_dep : ∀ {k : Kd}, ∀ x ∈ k.kids, x.dep + 1 ≤ k.dep
  | .num => fun x h => by cases h
  | .unit => fun x h => by cases h
  | .var _ => fun x h => by cases h
  | .lst a => fun x h => by
    rw [List.mem_singleton.mp h]
    exact Nat.le_refl _
  | .pair a b => fun x h => by
    have e : (Kd.pair a b).dep = max a.dep b.dep + 1 := rfl
    rcases List.mem_cons.mp h with h | h
    · rw [h]; omega
    · rw [List.mem_singleton.mp h]; omega
  | .eith a b => fun x h => by
    have e : (Kd.eith a b).dep = max a.dep b.dep + 1 := rfl
    rcases List.mem_cons.mp h with h | h
    · rw [h]; omega
    · rw [List.mem_singleton.mp h]; omega
  | .fn a b => fun x h => by
    have e : (Kd.fn a b).dep = max a.dep b.dep + 1 := rfl
    rcases List.mem_cons.mp h with h | h
    · rw [h]; omega
    · rw [List.mem_singleton.mp h]; omega
theorem wls_len : ∀ ks : List Kd, ((ks.map Kd.wl).flatten).length = (ks.map Kd.kz).sum
  | [] => rfl
  | k :: ks => by
    rw [List.map_cons, List.flatten_cons, List.length_append, wls_len ks, k.wl_len, List.map_cons, List.sum_cons]
theorem wls_take (ks : List Kd) (i : Nat) : (((ks.take i).map Kd.wl).flatten).length ≤ (ks.map Kd.kz).sum := by
  rw [wls_len]
  have : (ks.map Kd.kz).sum = ((ks.take i ++ ks.drop i).map Kd.kz).sum := by rw [List.take_append_drop]
  rw [this, List.map_append, List.sum_append]
  exact Nat.le_add_right _ _
theorem kz_mem {k : Kd} : ∀ {ks : List Kd}, k ∈ ks → k.kz ≤ (ks.map Kd.kz).sum
  | e :: ks, h => by
    (rw [List.map_cons, List.sum_cons])
    rcases List.mem_cons.mp h with h | h
    · rw [h]; omega
    · have := kz_mem h
      omega
def leafs : List Str := ["var", "unit", "num"]
def deps (ks : List Kd) : List Int := ks.map fun x => (x.dep : Int)
theorem kd_split (k : Kd) : (inV (.str k.word) (leafs.map V.str) = true ∧ k.dep = 1 ∧ ∃ ds, k.d = .tuple (.str k.word :: ds)) ∨
    (inV (.str k.word) (leafs.map V.str) = false ∧ k.d = .tuple (.str k.word :: k.kids.map Kd.d) ∧ 0 < k.kids.length ∧ ∀ m : Int, m ∈ deps k.kids → (∀ y, y ∈ deps k.kids → y ≤ m) → 1 + m = (k.dep : Int)) := by
  have two : ∀ (a b : Kd) (m : Int), m ∈ deps [a, b] → (∀ y, y ∈ deps [a, b] → y ≤ m) → 1 + m = ((max a.dep b.dep + 1 : Nat) : Int) := fun a b m h1 h2 => by
    have ha := h2 (a.dep : Int) List.mem_cons_self
    have hb := h2 (b.dep : Int) (List.mem_cons_of_mem _ List.mem_cons_self)
    have ha' : (a.dep : Int) ≤ m := ha
    have hb' : (b.dep : Int) ≤ m := hb
    rcases List.mem_cons.mp h1 with h | h
    · have h' : m = (a.dep : Int) := h
      omega
    · have h' : m = (b.dep : Int) := List.mem_singleton.mp h
      omega
  cases k with
  | num => exact .inl ⟨by decide, rfl, _, rfl⟩
  | unit => exact .inl ⟨by decide, rfl, _, rfl⟩
  | var x => exact .inl ⟨by rfl, rfl, _, rfl⟩
  | lst a =>
    refine .inr ⟨by rfl, rfl, Nat.zero_lt_one, fun m h1 _ => ?_⟩
    rw [List.mem_singleton.mp h1]
    show 1 + (a.dep : Int) = ((a.dep + 1 : Nat) : Int)
    omega
  | pair a b => exact .inr ⟨by rfl, rfl, by show 0 < 2; decide, two a b⟩
  | eith a b => exact .inr ⟨by rfl, rfl, by show 0 < 2; decide, two a b⟩
  | fn a b => exact .inr ⟨by rfl, rfl, by show 0 < 2; decide, two a b⟩
def isK (d : PyData) : Bool := isF d && decide (d.depth ≤ 100)
theorem Kd.depth : ∀ k : Kd, k.d.depth = k.dep
  | .num => by simp [Kd.d, Kd.dep, PyData.depth, PyData.depthAll]
  | .unit => by simp [Kd.d, Kd.dep, PyData.depth, PyData.depthAll]
  | .var _ => by simp [Kd.d, Kd.dep, PyData.depth, PyData.depthAll]
  | .lst a => by simp [Kd.d, Kd.dep, PyData.depth, PyData.depthAll, Kd.depth a]
  | .pair a b => by simp [Kd.d, Kd.dep, PyData.depth, PyData.depthAll, Kd.depth a, Kd.depth b]
  | .eith a b => by simp [Kd.d, Kd.dep, PyData.depth, PyData.depthAll, Kd.depth a, Kd.depth b]
  | .fn a b => by simp [Kd.d, Kd.dep, PyData.depth, PyData.depthAll, Kd.depth a, Kd.depth b]
theorem isK_ok {d : PyData} (h : isK d = true) : ∃ k : Kd, k.d = d ∧ k.okv = true ∧ k.dep ≤ 100 := by
  obtain ⟨h1, h2⟩ := Bool.and_eq_true_iff.mp h
  obtain ⟨k, rfl, o⟩ := isF_ok d h1
  have h3 := of_decide_eq_true h2
  rw [Kd.depth] at h3
  exact ⟨k, rfl, o, h3⟩
def spIk (n : Nat) : Sp := fun vs H Q _ => ∃ (F : Addr → Prop) (v : V) (d : PyData), vs = [v] ∧ Dt F H v d ∧ d.depth ≤ n ∧ ∀ H', Same H H' → Q (.bl (isK d)) H'
def spWi (n : Nat) : Sp := fun vs H Q _ => ∃ (F : Addr → Prop) (v : V) (k : Kd), vs = [v] ∧ Dt F H v k.d ∧ k.dep ≤ n ∧ k.kz ≤ 4000000 ∧ ∀ (p : Addr) (H' : Hp), H p = none → Same H H' → H' p = some (.lst (k.wl.map V.str)) → Q (.ref p) H'
end KB
namespace KB
open PySem L2 PySem.Spec PyProof.Rows
mutual
def nf : PyData → Bool
  | .tuple (x :: ds) => !txB x ["fun"] && nfA ds
  | _ => true
def nfA : List PyData → Bool
  | [] => true
  | d :: ds => nf d && nfA ds
end
mutual
def cl : PyData → Bool
  | .tuple (x :: ds) => !txB x ["var"] && clA ds
  | _ => true
def clA : List PyData → Bool
  | [] => true
  | d :: ds => cl d && clA ds
end
theorem nf_d : ∀ k : Kd, nf k.d = k.noFn
  | .num => by rfl
  | .unit => by rfl
  | .var _ => by simp [Kd.d, Kd.noFn, nf, nfA]; rfl
  | .lst a => by simp only [Kd.d, Kd.noFn, nf, nfA, nf_d a, Bool.and_true]; rfl
  | .pair a b => by simp only [Kd.d, Kd.noFn, nf, nfA, nf_d a, nf_d b, Bool.and_true]; rfl
  | .eith a b => by simp only [Kd.d, Kd.noFn, nf, nfA, nf_d a, nf_d b, Bool.and_true]; rfl
  | .fn a b => by simp only [Kd.d, Kd.noFn, nf]; rfl
theorem cl_d : ∀ k : Kd, cl k.d = k.closed
  | .num => by rfl
  | .unit => by rfl
  | .var _ => by simp only [Kd.d, Kd.closed, cl]; rfl
  | .lst a => by simp only [Kd.d, Kd.closed, cl, clA, cl_d a, Bool.and_true]; rfl
  | .pair a b => by simp only [Kd.d, Kd.closed, cl, clA, cl_d a, cl_d b, Bool.and_true]; rfl
  | .eith a b => by simp only [Kd.d, Kd.closed, cl, clA, cl_d a, cl_d b, Bool.and_true]; rfl
  | .fn a b => by simp only [Kd.d, Kd.closed, cl, clA, cl_d a, cl_d b, Bool.and_true]; rfl
def abc : List Str := ["a", "b", "c"]
theorem abc_fun {x : Str} (h : abc.contains x = true) : (x == "fun") = false := by
  have m : x ∈ abc := by simpa using h
  rcases List.mem_cons.mp m with e | m
  · rw [e]; decide
  · rcases List.mem_cons.mp m with e | m
    · rw [e]; decide
    · rw [List.mem_singleton.mp m]; decide
theorem wl_fun : ∀ k : Kd, k.okv = true → (k.wl.any fun x => x == "fun") = !k.noFn
  | .num, _ => by decide
  | .unit, _ => by decide
  | .var x, h => by
    show ((x == "fun") || false) = false
    rw [abc_fun h]
    rfl
  | .lst a, h => by
    rw [Kd.wl, List.any_cons, wl_fun a h]
    rfl
  | .pair a b, h => by
    obtain ⟨h1, h2⟩ := Bool.and_eq_true_iff.mp (show (a.okv && b.okv) = true from h)
    rw [Kd.wl, List.any_cons, List.any_append, wl_fun a h1, wl_fun b h2, Kd.noFn, Bool.not_and]
    rfl
  | .eith a b, h => by
    obtain ⟨h1, h2⟩ := Bool.and_eq_true_iff.mp (show (a.okv && b.okv) = true from h)
    rw [Kd.wl, List.any_cons, List.any_append, wl_fun a h1, wl_fun b h2, Kd.noFn, Bool.not_and]
    rfl
  | .fn a b, h => by rw [Kd.wl, List.any_cons]; rfl
theorem wl_abc : ∀ k : Kd, k.okv = true → ((k.wl.filter fun x => abc.contains x).isEmpty) = k.closed
  | .num, _ => by decide
  | .unit, _ => by decide
  | .var x, h => by
    have h' : abc.contains x = true := h
    rw [Kd.wl, List.filter_cons_of_pos h']
    rfl
  | .lst a, h => by
    rw [Kd.wl, List.filter_cons_of_neg (by decide), wl_abc a h]
    rfl
  | .pair a b, h => by
    obtain ⟨h1, h2⟩ := Bool.and_eq_true_iff.mp (show (a.okv && b.okv) = true from h)
    rw [Kd.wl, List.filter_cons_of_neg (by decide), List.filter_append, Kd.closed, ← wl_abc a h1, ← wl_abc b h2]
    cases a.wl.filter fun x => abc.contains x <;> simp
  | .eith a b, h => by
    obtain ⟨h1, h2⟩ := Bool.and_eq_true_iff.mp (show (a.okv && b.okv) = true from h)
    rw [Kd.wl, List.filter_cons_of_neg (by decide), List.filter_append, Kd.closed, ← wl_abc a h1, ← wl_abc b h2]
    cases a.wl.filter fun x => abc.contains x <;> simp
  | .fn a b, h => by
    obtain ⟨h1, h2⟩ := Bool.and_eq_true_iff.mp (show (a.okv && b.okv) = true from h)
    rw [Kd.wl, List.filter_cons_of_neg (by decide), List.filter_append, Kd.closed, ← wl_abc a h1, ← wl_abc b h2]
    cases a.wl.filter fun x => abc.contains x <;> simp
def isDk (d : PyData) : Bool := isK d && nf d
def isCk (d : PyData) : Bool := isK d && cl d
def spId (n : Nat) : Sp := fun vs H Q _ => ∃ (F : Addr → Prop) (v : V) (d : PyData), vs = [v] ∧ Dt F H v d ∧ d.depth ≤ n ∧ sz d ≤ 4000000 ∧ ∀ H', Same H H' → Q (.bl (isDk d)) H'
def spIc (n : Nat) : Sp := fun vs H Q _ => ∃ (F : Addr → Prop) (v : V) (d : PyData), vs = [v] ∧ Dt F H v d ∧ d.depth ≤ n ∧ sz d ≤ 4000000 ∧ ∀ H', Same H H' → Q (.bl (isCk d)) H'
theorem kz_sz : ∀ k : Kd, k.kz ≤ sz k.d
  | .num => by simp [Kd.kz, Kd.d, sz, szA]
  | .unit => by simp [Kd.kz, Kd.d, sz, szA]
  | .var _ => by simp [Kd.kz, Kd.d, sz, szA]
  | .lst a => by have := kz_sz a; simp only [Kd.kz, Kd.d, sz, szA]; omega
  | .pair a b => by have := kz_sz a; have := kz_sz b; simp only [Kd.kz, Kd.d, sz, szA]; omega
  | .eith a b => by have := kz_sz a; have := kz_sz b; simp only [Kd.kz, Kd.d, sz, szA]; omega
  | .fn a b => by have := kz_sz a; have := kz_sz b; simp only [Kd.kz, Kd.d, sz, szA]; omega
theorem inV_fun (ws : List Str) : inV (.str "fun") (ws.map V.str) = ws.any fun x => x == "fun" := by
  rw [inV_str]
  induction ws with
  | nil => rfl
  | cons x ws ih => rw [List.contains_cons, List.any_cons, ih, Bool.beq_comm]
theorem dp_strs {K : PySem.W.Frag} {H : Hp} : ∀ ws : List Str, DpAll K H (ws.map V.str) (ws.map PyData.str)
  | [] => .nil
  | x :: ws => .cons (.str x) (dp_strs ws)
theorem lay_strs : ∀ ws : List Str, (∀ x ∈ ws, PyData.strOk x = true) → PyData.canLayAll0 (ws.map PyData.str) = true ∧ PyData.depthAll (ws.map PyData.str) = 0
  | [], _ => by simp [PyData.canLayAll0, PyData.depthAll]
  | x :: ws, h => by
    have := lay_strs ws fun y hy => h y (List.mem_cons_of_mem _ hy)
    have hx := h x List.mem_cons_self
    simp [PyData.canLayAll0, PyData.canLay0, PyData.depthAll, PyData.depth, this.1, this.2, hx]
theorem shaped_strs {ws : List Str} (h : ∀ x ∈ ws, PyData.strOk x = true) : SeqAt.shaped (.list (ws.map PyData.str)) = true := by
  have := lay_strs ws h
  simp [SeqAt.shaped, PyData.canLay0, PyData.depth, this.1, this.2]
theorem abc_ok {ws : List Str} : ∀ x ∈ ws.filter (fun x => abc.contains x), PyData.strOk x = true := fun x h => by
  have m : x ∈ abc := by simpa using (List.mem_filter.mp h).2
  rcases List.mem_cons.mp m with e | m
  · rw [e]; decide +kernel
  · rcases List.mem_cons.mp m with e | m
    · rw [e]; decide +kernel
    · rw [List.mem_singleton.mp m]; decide +kernel
theorem inT {X : Cx} {K : PySem.W.Frag} (h : X.K = K) : OpR X (compareOp .In) (rIn K false) := by
  rw [← h]
  exact op_in_seq
theorem eqv_empty (ws : List Str) : PyData.eqv (.list (ws.map PyData.str)) (.list []) = ws.isEmpty := by
  cases ws <;> rfl
end KB
namespace KB
open PySem L2 PySem.Spec PyProof.Rows
def hfB : PyData → Bool
  | .tuple [x] => txB x ["unit", "num"]
  | .tuple [x, y] => txB x ["var", "list"] && (!txB x ["var"] || txB y abc)
  | .tuple [x, _, _] => txB x ["pair", "either", "fun"]
  | _ => false
def pb : PyData → List PyData
  | .tuple (x :: ds) => if txB x ["var"] then [] else ds
  | _ => []
mutual
def lv : PyData → Int → List (PyData × Int)
  | .tuple (x :: ds), l => (.tuple (x :: ds), l) :: (if txB x ["var"] then [] else lvA ds (l + 1))
  | d, l => [(d, l)]
def lvA : List PyData → Int → List (PyData × Int)
  | [], _ => []
  | d :: ds, l => lv d l ++ lvA ds l
end
def lvL : List (PyData × Int) → List (PyData × Int)
  | [] => []
  | p :: ps => lv p.1 p.2 ++ lvL ps
theorem lvL_app : ∀ a b : List (PyData × Int), lvL (a ++ b) = lvL a ++ lvL b
  | [], _ => rfl
  | p :: a, b => by rw [List.cons_append, lvL, lvL, lvL_app a b, List.append_assoc]
theorem lvA_L (l : Int) : ∀ ds : List PyData, lvA ds l = lvL (ds.map fun e => (e, l))
  | [] => by rw [lvA]; rfl
  | d :: ds => by rw [lvA, lvA_L l ds]; rfl
theorem hf_tup {d : PyData} (h : hfB d = true) : ∃ s ds, d = .tuple (.str s :: ds) := by
  match d, h with
  | .tuple [x], h =>
    obtain ⟨s, rfl, _⟩ := txB_str (show txB x ["unit", "num"] = true from h)
    exact ⟨s, _, rfl⟩
  | .tuple [x, y], h =>
    obtain ⟨s, rfl, _⟩ := txB_str (Bool.and_eq_true_iff.mp (show (txB x ["var", "list"] && (!txB x ["var"] || txB y abc)) = true from h)).1
    exact ⟨s, _, rfl⟩
  | .tuple [x, y, z], h =>
    obtain ⟨s, rfl, _⟩ := txB_str (show txB x ["pair", "either", "fun"] = true from h)
    exact ⟨s, _, rfl⟩
theorem lv_step {d : PyData} (h : hfB d = true) (l : Int) : lv d l = (d, l) :: lvL ((pb d).map fun e => (e, l + 1)) := by
  obtain ⟨s, ds, rfl⟩ := hf_tup h
  rw [lv, pb]
  by_cases g : txB (.str s) ["var"] = true
  · rw [if_pos g, if_pos g]; rfl
  · rw [if_neg g, if_neg g, lvA_L]
def okB (p : PyData × Int) : Bool := isF p.1 && decide (p.2 + (p.1.depth : Int) ≤ 101)
theorem isF_pos {d : PyData} (h : isF d = true) : 1 ≤ d.depth := by
  obtain ⟨k, rfl, _⟩ := isF_ok d h
  rw [Kd.depth]
  exact Kd.dep_pos k
theorem okB_no {d : PyData} {l : Int} (h : isF d = false) : okB (d, l) = false := by
  show (isF d && _) = false
  rw [h]
  rfl
theorem okB_isF {d : PyData} {l : Int} (h : isF d = true) : okB (d, l) = decide (l + (d.depth : Int) ≤ 101) := by
  show (isF d && _) = _
  rw [h]
  rfl
theorem okB_step (d : PyData) (l : Int) : okB (d, l) = (decide (l ≤ 100) && (hfB d && (pb d).all fun e => okB (e, l + 1))) := by
  have no : isF d = false → hfB d = false → okB (d, l) = (decide (l ≤ 100) && (hfB d && (pb d).all fun e => okB (e, l + 1))) := fun a b => by
    rw [okB_no a, b, Bool.false_and, Bool.and_false]
  match d, no with
  | .none, no => exact no rfl rfl
  | .bool _, no => exact no rfl rfl
  | .int _, no => exact no rfl rfl
  | .str _, no => exact no rfl rfl
  | .list _, no => exact no rfl rfl
  | .dict _, no => exact no rfl rfl
  | .tuple [], no => exact no (by rw [isF_step]; rfl) rfl
  | .tuple (x :: y :: z :: u :: r), no => exact no (by rw [isF_step]; simp [hd]) rfl
  | .tuple [x], no =>
    by_cases h : txB x ["unit", "num"] = true
    · obtain ⟨s, rfl, _⟩ := txB_str h
      have e : isF (.tuple [.str s]) = true := by rw [isF]; exact h
      rw [okB_isF e, show hfB (.tuple [.str s]) = true from h]
      have e2 : pb (.tuple [.str s]) = [] := by rw [pb]; split <;> rfl
      rw [e2, List.all_nil, Bool.and_self, Bool.and_true]
      have e3 : (PyData.tuple [.str s]).depth = 1 := by simp [PyData.depth, PyData.depthAll]
      rw [e3]
      exact decide_eq_decide.mpr ⟨fun h => by omega, fun h => by omega⟩
    · have h' : txB x ["unit", "num"] = false := by simpa using h
      exact no (by rw [isF]; exact h') h'
  | .tuple [x, y], no =>
    by_cases hv : txB x ["var"] = true
    · obtain ⟨s, rfl, m⟩ := txB_str hv
      have es := List.mem_singleton.mp m
      subst es
      by_cases hy : txB y abc = true
      · obtain ⟨t, rfl, _⟩ := txB_str hy
        have e : isF (.tuple [.str "var", .str t]) = true := by rw [isF, if_pos hv]; exact hy
        have e1 : hfB (.tuple [.str "var", .str t]) = true := by
          show (txB (.str "var") ["var", "list"] && (!txB (.str "var") ["var"] || txB (.str t) abc)) = true
          rw [hy, Bool.or_true]; rfl
        rw [okB_isF e, e1]
        have e2 : pb (.tuple [.str "var", .str t]) = [] := by rw [pb, if_pos hv]
        rw [e2, List.all_nil, Bool.and_self, Bool.and_true]
        have e3 : (PyData.tuple [.str "var", .str t]).depth = 1 := by simp [PyData.depth, PyData.depthAll]
        rw [e3]
        exact decide_eq_decide.mpr ⟨fun h => by omega, fun h => by omega⟩
      · have hy' : txB y abc = false := by simpa using hy
        refine no (by rw [isF, if_pos hv]; exact hy') ?_
        show (txB (.str "var") ["var", "list"] && (!txB (.str "var") ["var"] || txB y abc)) = false
        rw [hy', hv]; rfl
    · have hv' : txB x ["var"] = false := by simpa using hv
      by_cases hl : txB x ["list"] = true
      · obtain ⟨s, rfl, m⟩ := txB_str hl
        have es := List.mem_singleton.mp m
        subst es
        have e1 : hfB (.tuple [.str "list", y]) = true := by
          show (txB (.str "list") ["var", "list"] && (!txB (.str "list") ["var"] || txB y abc)) = true
          rw [hv']; rfl
        have e2 : pb (.tuple [.str "list", y]) = [y] := by rw [pb, if_neg hv]
        rw [e1, e2, Bool.true_and, List.all_cons, List.all_nil, Bool.and_true]
        have e0 : isF (.tuple [.str "list", y]) = isF y := by rw [isF, if_neg hv, hl, Bool.true_and]
        cases ey : isF y with
        | false => rw [okB_no (e0.trans ey), okB_no ey, Bool.and_false]
        | true =>
          have p := isF_pos ey
          have e3 : (PyData.tuple [.str "list", y]).depth = y.depth + 1 := by simp [PyData.depth, PyData.depthAll]
          rw [okB_isF (e0.trans ey), okB_isF ey, e3, ← Bool.decide_and]
          exact decide_eq_decide.mpr ⟨fun h => by omega, fun h => by omega⟩
      · have hl' : txB x ["list"] = false := by simpa using hl
        refine no (by rw [isF, if_neg hv, hl']; rfl) ?_
        show (txB x ["var", "list"] && _) = false
        cases x with
        | str s =>
          have a1 : s ≠ "var" := fun z => hv (by rw [z]; rfl)
          have a2 : s ≠ "list" := fun z => hl (by rw [z]; rfl)
          have : txB (.str s) ["var", "list"] = false := by
            show (["var", "list"] : List Str).contains s = false
            simp [a1, a2]
          rw [this]; rfl
        | _ => rfl
  | .tuple [x, y, z], no =>
    by_cases h : txB x ["pair", "either", "fun"] = true
    · obtain ⟨s, rfl, m⟩ := txB_str h
      have nv : ¬ txB (.str s) ["var"] = true := fun g => by
        obtain ⟨t, et, mt⟩ := txB_str g
        have e1 := PyData.str.inj et
        have e2 := List.mem_singleton.mp mt
        rw [e1, e2] at m
        exact absurd m (by decide)
      have e1 : hfB (.tuple [.str s, y, z]) = true := h
      have e2 : pb (.tuple [.str s, y, z]) = [y, z] := by rw [pb, if_neg nv]
      rw [e1, e2, Bool.true_and, List.all_cons, List.all_cons, List.all_nil, Bool.and_true]
      have e0 : isF (.tuple [.str s, y, z]) = (isF y && isF z) := by rw [isF, h, Bool.true_and]
      cases ey : isF y with
      | false => rw [okB_no (by rw [e0, ey]; rfl), okB_no ey, Bool.false_and, Bool.and_false]
      | true =>
        cases ez : isF z with
        | false => rw [okB_no (by rw [e0, ey, ez]; rfl), okB_no ez, Bool.and_false, Bool.and_false]
        | true =>
          have p := isF_pos ey
          have p2 := isF_pos ez
          have e3 : (PyData.tuple [.str s, y, z]).depth = max y.depth z.depth + 1 := by simp [PyData.depth, PyData.depthAll]
          rw [okB_isF (by rw [e0, ey, ez]; rfl), okB_isF ey, okB_isF ez, e3, ← Bool.decide_and, ← Bool.decide_and]
          exact decide_eq_decide.mpr ⟨fun h => by omega, fun h => by omega⟩
    · have h' : txB x ["pair", "either", "fun"] = false := by simpa using h
      exact no (by rw [isF, h']; rfl) h'
theorem okB_one (d : PyData) : okB (d, 1) = isK d := by
  show (isF d && decide ((1 : Int) + (d.depth : Int) ≤ 101)) = (isF d && decide (d.depth ≤ 100))
  congr 1
  exact decide_eq_decide.mpr ⟨fun h => by omega, fun h => by omega⟩
theorem pb_sz (d : PyData) : ((pb d).map sz).sum + 1 ≤ sz d + 1 ∧ (hfB d = true → ((pb d).map sz).sum + 3 ≤ sz d) := by
  have sum : ∀ ds : List PyData, (ds.map sz).sum ≤ szA ds := fun ds => by
    induction ds with
    | nil => exact Nat.le_refl _
    | cons d ds ih => rw [List.map_cons, List.sum_cons, szA]; omega
  have key : ((pb d).map sz).sum ≤ sz d ∧ (hfB d = true → ((pb d).map sz).sum + 3 ≤ sz d) := by
    cases d with
    | tuple ds =>
      cases ds with
      | nil => exact ⟨Nat.zero_le _, fun h => by cases h⟩
      | cons x ds =>
        have := sum ds
        rw [pb, sz, szA]
        split
        · exact ⟨Nat.zero_le _, fun _ => by show 0 + 3 ≤ _; omega⟩
        · exact ⟨by omega, fun _ => by omega⟩
    | _ => exact ⟨Nat.zero_le _, fun h => by cases h⟩
  exact ⟨by omega, key.2⟩
end KB
namespace KB
open PySem L2 PySem.Spec PyProof.Rows
def spHf : Sp := fun vs H Q _ => ∃ (F : Addr → Prop) (v : V) (d : PyData), vs = [v] ∧ Dt F H v d ∧ Q (.bl (hfB d)) H
theorem hfB_notup {d : PyData} (h : isTup d = false) : hfB d = false := by
  cases d <;> first | rfl | cases h
def w3 (t1 t2 t3 : Addr) : List (L2.Key × V) := [(.inl 1, .ref t1), (.inl 2, .ref t2), (.inl 3, .ref t3)]
theorem w3_no {t1 t2 t3 : Addr} {n : Nat} (h : n = 0 ∨ 4 ≤ n) : valV (w3 t1 t2 t3) (.inl (n : Int)) = none := by
  have a : ∀ m : Int, (m = 1 ∨ m = 2 ∨ m = 3) → decide ((Sum.inl m : L2.Key) = .inl (n : Int)) = false := fun m hm => decide_eq_false fun z => by
    have := Sum.inl.inj z
    omega
  simp only [valV, w3, List.find?, a 1 (by simp), a 2 (by simp), a 3 (by simp), Option.map]
end KB
namespace KB
open PySem L2 PySem.Spec PyProof.Rows
def pvL (p : PyData × Int) : PyData := .tuple [p.1, .int p.2]
def spPw : Sp := fun vs H Q _ => ∃ (F : Addr → Prop) (v : V) (d : PyData), vs = [v] ∧ Dt F H v d ∧ sz d ≤ 4000000 ∧ (isK d = false → ∀ H', Same H H' → Q .non H') ∧
  (isK d = true → ∀ (G : Addr) (gs : List V) (qs : List (PyData × Int)) (H' : Hp), Same H H' → H' G = some (.lst gs) → DtA (Ot []) H' gs (qs.map pvL) → qs.Perm (lv d 1) → qs.length ≤ 4000000 → Q (.ref G) H')
def msz (ps : List (PyData × Int)) : Nat := (ps.map fun p => sz p.1).sum
theorem msz_app (a b : List (PyData × Int)) : msz (a ++ b) = msz a + msz b := by
  unfold msz
  rw [List.map_append, List.sum_append]
theorem msz_kids (ks : List PyData) (l : Int) : msz (ks.map fun k => (k, l)) = (ks.map sz).sum := by
  unfold msz
  rw [List.map_map]
  rfl
theorem sz_pos (d : PyData) : 1 ≤ sz d ∨ sz d = 0 := by omega
theorem kids_pv (ks : List PyData) (l : Int) (i : Nat) (k : PyData) (h : ks[i]? = some k) : (ks.take (i + 1)).map (fun k => pvL (k, l)) = (ks.take i).map (fun k => pvL (k, l)) ++ [pvL (k, l)] := by
  rw [List.take_add_one, h, List.map_append]
  rfl
end KB
namespace KB
open PySem L2 PySem.Spec PyProof.Rows
def Kd.lvs : Kd → Int → List (Kd × Int)
  | num, l => [(num, l)]
  | unit, l => [(unit, l)]
  | var x, l => [(var x, l)]
  | lst a, l => (lst a, l) :: a.lvs (l + 1)
  | pair a b, l => (pair a b, l) :: (a.lvs (l + 1) ++ b.lvs (l + 1))
  | eith a b, l => (eith a b, l) :: (a.lvs (l + 1) ++ b.lvs (l + 1))
  | fn a b, l => (fn a b, l) :: (a.lvs (l + 1) ++ b.lvs (l + 1))
def kdL (p : Kd × Int) : PyData × Int := (p.1.d, p.2)
theorem lv_d : ∀ (k : Kd) (l : Int), lv k.d l = (k.lvs l).map kdL
  | .num, l => by rfl
  | .unit, l => by rfl
  | .var x, l => by rfl
  | .lst a, l => by
    have e : lv (Kd.lst a).d l = ((Kd.lst a).d, l) :: lvA [a.d] (l + 1) := by
      show lv (.tuple (.str "list" :: [a.d])) l = _
      rw [lv, if_neg (by decide)]
      rfl
    rw [e, lvA, lvA, List.append_nil, lv_d a, Kd.lvs, List.map_cons]
    rfl
  | .pair a b, l => by
    have e : lv (Kd.pair a b).d l = ((Kd.pair a b).d, l) :: lvA [a.d, b.d] (l + 1) := by
      show lv (.tuple (.str "pair" :: [a.d, b.d])) l = _
      rw [lv, if_neg (by decide)]
      rfl
    rw [e, lvA, lvA, lvA, List.append_nil, lv_d a, lv_d b, Kd.lvs, List.map_cons, List.map_append]
    rfl
  | .eith a b, l => by
    have e : lv (Kd.eith a b).d l = ((Kd.eith a b).d, l) :: lvA [a.d, b.d] (l + 1) := by
      show lv (.tuple (.str "either" :: [a.d, b.d])) l = _
      rw [lv, if_neg (by decide)]
      rfl
    rw [e, lvA, lvA, lvA, List.append_nil, lv_d a, lv_d b, Kd.lvs, List.map_cons, List.map_append]
    rfl
  | .fn a b, l => by
    have e : lv (Kd.fn a b).d l = ((Kd.fn a b).d, l) :: lvA [a.d, b.d] (l + 1) := by
      show lv (.tuple (.str "fun" :: [a.d, b.d])) l = _
      rw [lv, if_neg (by decide)]
      rfl
    rw [e, lvA, lvA, lvA, List.append_nil, lv_d a, lv_d b, Kd.lvs, List.map_cons, List.map_append]
    rfl
def nw (wd : Str) (p : PyData × Int) : Bool :=
  match p.1 with
  | .tuple (.str s :: _) => !decide (V.str s = V.str wd)
  | _ => true
theorem nw_d (wd : Str) (k : Kd) (l : Int) : nw wd (kdL (k, l)) = !decide (V.str k.word = V.str wd) := by
  cases k <;> rfl
theorem no_str {x y : Str} (h : x ≠ y) : (!decide (V.str x = V.str y)) = true := by
  rw [decide_eq_false fun z => h (V.str.inj z)]
  rfl
theorem lvs_fun : ∀ (k : Kd) (l : Int), ((k.lvs l).map kdL).all (nw "fun") = k.noFn
  | .num, l => by rfl
  | .unit, l => by rfl
  | .var x, l => by rfl
  | .lst a, l => by rw [Kd.lvs, List.map_cons, List.all_cons, lvs_fun a]; rfl
  | .pair a b, l => by rw [Kd.lvs, List.map_cons, List.all_cons, List.map_append, List.all_append, lvs_fun a, lvs_fun b]; rfl
  | .eith a b, l => by rw [Kd.lvs, List.map_cons, List.all_cons, List.map_append, List.all_append, lvs_fun a, lvs_fun b]; rfl
  | .fn a b, l => by rw [Kd.lvs, List.map_cons, List.all_cons]; rfl
theorem lvs_var : ∀ (k : Kd) (l : Int), ((k.lvs l).map kdL).all (nw "var") = k.closed
  | .num, l => by rfl
  | .unit, l => by rfl
  | .var x, l => by rfl
  | .lst a, l => by rw [Kd.lvs, List.map_cons, List.all_cons, lvs_var a]; rfl
  | .pair a b, l => by rw [Kd.lvs, List.map_cons, List.all_cons, List.map_append, List.all_append, lvs_var a, lvs_var b]; rfl
  | .eith a b, l => by rw [Kd.lvs, List.map_cons, List.all_cons, List.map_append, List.all_append, lvs_var a, lvs_var b]; rfl
  | .fn a b, l => by rw [Kd.lvs, List.map_cons, List.all_cons, List.map_append, List.all_append, lvs_var a, lvs_var b]; rfl
theorem lvs_le : ∀ (k : Kd) (l : Int), ∀ p ∈ k.lvs l, p.2 + 1 ≤ l + k.dep
  | .num, l => fun p h => by rw [List.mem_singleton.mp h]; show l + 1 ≤ l + 1; omega
  | .unit, l => fun p h => by rw [List.mem_singleton.mp h]; show l + 1 ≤ l + 1; omega
  | .var _, l => fun p h => by rw [List.mem_singleton.mp h]; show l + 1 ≤ l + 1; omega
  | .lst a, l => fun p h => by
    have e : (Kd.lst a).dep = a.dep + 1 := rfl
    rcases List.mem_cons.mp h with h | h
    · rw [h]; show l + 1 ≤ _; omega
    · have := lvs_le a _ p h; omega
  | .pair a b, l => fun p h => by
    have e : (Kd.pair a b).dep = max a.dep b.dep + 1 := rfl
    rcases List.mem_cons.mp h with h | h
    · rw [h]; show l + 1 ≤ _; omega
    · (rcases List.mem_append.mp h with h | h)
      · have := lvs_le a _ p h; omega
      · have := lvs_le b _ p h; omega
  | .eith a b, l => fun p h => by
    have e : (Kd.eith a b).dep = max a.dep b.dep + 1 := rfl
    rcases List.mem_cons.mp h with h | h
    · rw [h]; show l + 1 ≤ _; omega
    · (rcases List.mem_append.mp h with h | h)
      · have := lvs_le a _ p h; omega
      · have := lvs_le b _ p h; omega
  | .fn a b, l => fun p h => by
    have e : (Kd.fn a b).dep = max a.dep b.dep + 1 := rfl
    rcases List.mem_cons.mp h with h | h
    · rw [h]; show l + 1 ≤ _; omega
    · (rcases List.mem_append.mp h with h | h)
      · have := lvs_le a _ p h; omega
      · have := lvs_le b _ p h; omega
theorem lvs_top : ∀ (k : Kd) (l : Int), ∃ p ∈ k.lvs l, p.2 + 1 = l + k.dep
  | .num, l => ⟨_, List.mem_singleton.mpr rfl, rfl⟩
  | .unit, l => ⟨_, List.mem_singleton.mpr rfl, rfl⟩
  | .var _, l => ⟨_, List.mem_singleton.mpr rfl, rfl⟩
  | .lst a, l => by
    have e : (Kd.lst a).dep = a.dep + 1 := rfl
    obtain ⟨p, m, h⟩ := lvs_top a (l + 1)
    exact ⟨p, List.mem_cons_of_mem _ m, by omega⟩
  | .pair a b, l => by
    have e : (Kd.pair a b).dep = max a.dep b.dep + 1 := rfl
    obtain ⟨p, m, h⟩ := lvs_top a (l + 1)
    obtain ⟨q, n, g⟩ := lvs_top b (l + 1)
    by_cases c : b.dep ≤ a.dep
    · exact ⟨p, List.mem_cons_of_mem _ (List.mem_append_left _ m), by omega⟩
    · exact ⟨q, List.mem_cons_of_mem _ (List.mem_append_right _ n), by omega⟩
  | .eith a b, l => by
    have e : (Kd.eith a b).dep = max a.dep b.dep + 1 := rfl
    obtain ⟨p, m, h⟩ := lvs_top a (l + 1)
    obtain ⟨q, n, g⟩ := lvs_top b (l + 1)
    by_cases c : b.dep ≤ a.dep
    · exact ⟨p, List.mem_cons_of_mem _ (List.mem_append_left _ m), by omega⟩
    · exact ⟨q, List.mem_cons_of_mem _ (List.mem_append_right _ n), by omega⟩
  | .fn a b, l => by
    have e : (Kd.fn a b).dep = max a.dep b.dep + 1 := rfl
    obtain ⟨p, m, h⟩ := lvs_top a (l + 1)
    obtain ⟨q, n, g⟩ := lvs_top b (l + 1)
    by_cases c : b.dep ≤ a.dep
    · exact ⟨p, List.mem_cons_of_mem _ (List.mem_append_left _ m), by omega⟩
    · exact ⟨q, List.mem_cons_of_mem _ (List.mem_append_right _ n), by omega⟩
theorem all_perm {α : Type} {a b : List α} (p : α → Bool) (h : a.Perm b) : a.all p = b.all p := by
  (rw [Bool.eq_iff_iff, List.all_eq_true, List.all_eq_true])
  exact ⟨fun g x m => g x (h.mem_iff.mpr m), fun g x m => g x (h.mem_iff.mp m)⟩
def spKwG : Sp := fun vs H Q _ => ∃ (F : Addr → Prop) (v : V) (d : PyData) (wd : Str), vs = [v, .str wd] ∧ Dt F H v d ∧ sz d ≤ 4000000 ∧ (wd = "fun" ∨ wd = "var") ∧ ∀ H', Same H H' → Q (.bl (if wd = "fun" then isDk d else isCk d)) H'
def spIsG (f : PyData → Bool) : Sp := fun vs H Q _ => ∃ (F : Addr → Prop) (v : V) (d : PyData), vs = [v] ∧ Dt F H v d ∧ sz d ≤ 4000000 ∧ ∀ H', Same H H' → Q (.bl (f d)) H'
def spTp : Sp := fun vs H Q _ => ∃ (F : Addr → Prop) (v : V) (k : Kd), vs = [v] ∧ Dt F H v k.d ∧ k.okv = true ∧ k.dep ≤ 100 ∧ sz k.d ≤ 4000000 ∧
  ∀ (G : Addr) (gs : List V) (qs : List (PyData × Int)) (H' : Hp), Same H H' → H' G = some (.lst gs) → DtA (Ot []) H' gs (qs.map pvL) → qs.Perm ((k.lvs 1).map kdL) → qs.length ≤ 4000000 → Q (.ref G) H'
def spDpk : Sp := fun vs H Q _ => ∃ (F : Addr → Prop) (v : V) (k : Kd), vs = [v] ∧ Dt F H v k.d ∧ k.okv = true ∧ k.dep ≤ 100 ∧ sz k.d ≤ 4000000 ∧ ∀ H', Same H H' → Q (.int k.dep) H'
theorem isK_d {k : Kd} (h : k.okv = true) (d : k.dep ≤ 100) : isK k.d = true := by
  rw [isK, isF_d k h, Kd.depth, decide_eq_true d]
  rfl
end KB
namespace KB
open PySem L2 PySem.Spec PyProof.Rows
def spKd2 (n : Nat) : Sp := fun vs H Q _ => ∃ (w : Addr) (wh c : Int), vs = [.ref w, .int n, .int wh] ∧ Wl H w c ∧ c + Ck n < 2 ^ 60 ∧
  ∀ (v : V) (k : Kd) (c' : Int) (H' : Hp), Dt (Nw w) H' v k.d → k.dep ≤ max n 1 → (2 ≤ wh → k.closed = true) → (wh = 1 ∨ wh = 2 → k.noFn = true) → k.okv = true → Kw w H H' → Wl H' w c' → c' ≤ c + Ck n → Q v H'
end KB
namespace KB
open PySem L2 PySem.Spec PyProof.Rows
theorem abc_mem {x : Str} (h : (["a", "b", "c"] : List Str).contains x = true) : x = "a" ∨ x = "b" ∨ x = "c" := by
  have m : x ∈ (["a", "b", "c"] : List Str) := by simpa using h
  rcases List.mem_cons.mp m with e | m
  · exact .inl e
  · rcases List.mem_cons.mp m with e | m
    · exact .inr (.inl e)
    · exact .inr (.inr (List.mem_singleton.mp m))
theorem kd_show : ∀ k : Kd, k.okv = true → k.d.showable = true
  | .num, _ => by simp [Kd.d, PyData.showable, PyData.showableAll]
  | .unit, _ => by simp [Kd.d, PyData.showable, PyData.showableAll]
  | .var x, h => by simp [Kd.d, PyData.showable, PyData.showableAll]
  | .lst a, h => by simp [Kd.d, PyData.showable, PyData.showableAll, kd_show a h]
  | .pair a b, h => by
    obtain ⟨h1, h2⟩ := Bool.and_eq_true_iff.mp (show (a.okv && b.okv) = true from h)
    simp [Kd.d, PyData.showable, PyData.showableAll, kd_show a h1, kd_show b h2]
  | .eith a b, h => by
    obtain ⟨h1, h2⟩ := Bool.and_eq_true_iff.mp (show (a.okv && b.okv) = true from h)
    simp [Kd.d, PyData.showable, PyData.showableAll, kd_show a h1, kd_show b h2]
  | .fn a b, h => by
    obtain ⟨h1, h2⟩ := Bool.and_eq_true_iff.mp (show (a.okv && b.okv) = true from h)
    simp [Kd.d, PyData.showable, PyData.showableAll, kd_show a h1, kd_show b h2]
def kwords : List Str := ["num", "unit", "var", "list", "pair", "either", "fun", "a", "b", "c"]
theorem kw_long : (kwords.all fun x => decide (sz (.str x) ≤ 8)) = true := by decide +kernel
theorem kw_sz {x : Str} (h : x ∈ kwords) : sz (.str x) ≤ 8 := of_decide_eq_true (List.all_eq_true.mp kw_long x h)
theorem sz_kz : ∀ k : Kd, k.okv = true → sz k.d ≤ 25 * k.kz
  | .num, _ => by have := kw_sz (x := "num") (by decide); simp only [Kd.d, Kd.kz, sz_tup, szA]; omega
  | .unit, _ => by have := kw_sz (x := "unit") (by decide); simp only [Kd.d, Kd.kz, sz_tup, szA]; omega
  | .var x, h => by
    have h1 := kw_sz (x := "var") (by decide)
    have h2 : sz (.str x) ≤ 8 := by
      rcases abc_mem h with e | e | e
      · rw [e]; exact kw_sz (by decide)
      · rw [e]; exact kw_sz (by decide)
      · rw [e]; exact kw_sz (by decide)
    simp only [Kd.d, Kd.kz, sz_tup, szA]; omega
  | .lst a, h => by
    have h1 := kw_sz (x := "list") (by decide)
    have h2 := sz_kz a h
    simp only [Kd.d, Kd.kz, sz_tup, szA]; omega
  | .pair a b, h => by
    obtain ⟨o1, o2⟩ := Bool.and_eq_true_iff.mp (show (a.okv && b.okv) = true from h)
    have h1 := kw_sz (x := "pair") (by decide)
    have h2 := sz_kz a o1
    have h3 := sz_kz b o2
    simp only [Kd.d, Kd.kz, sz_tup, szA]; omega
  | .eith a b, h => by
    obtain ⟨o1, o2⟩ := Bool.and_eq_true_iff.mp (show (a.okv && b.okv) = true from h)
    have h1 := kw_sz (x := "either") (by decide)
    have h2 := sz_kz a o1
    have h3 := sz_kz b o2
    simp only [Kd.d, Kd.kz, sz_tup, szA]; omega
  | .fn a b, h => by
    obtain ⟨o1, o2⟩ := Bool.and_eq_true_iff.mp (show (a.okv && b.okv) = true from h)
    have h1 := kw_sz (x := "fun") (by decide)
    have h2 := sz_kz a o1
    have h3 := sz_kz b o2
    simp only [Kd.d, Kd.kz, sz_tup, szA]; omega
theorem ib_str {B : Nat} (x : Str) : IB B (.str x) := by rw [IB]; exact True.intro
theorem ib_kd {B : Nat} : ∀ k : Kd, IB B k.d
  | .num => ib_tup.mpr fun x h => by rw [List.mem_singleton.mp h]; exact ib_str _
  | .unit => ib_tup.mpr fun x h => by rw [List.mem_singleton.mp h]; exact ib_str _
  | .var y => ib_tup.mpr fun x h => by
    rcases List.mem_cons.mp h with h | h
    · rw [h]; exact ib_str _
    · rw [List.mem_singleton.mp h]; exact ib_str _
  | .lst a => ib_tup.mpr fun x h => by
    rcases List.mem_cons.mp h with h | h
    · rw [h]; exact ib_str _
    · rw [List.mem_singleton.mp h]; exact ib_kd a
  | .pair a b => ib_tup.mpr fun x h => by
    rcases List.mem_cons.mp h with h | h
    · rw [h]; exact ib_str _
    · rcases List.mem_cons.mp h with h | h
      · rw [h]; exact ib_kd a
      · rw [List.mem_singleton.mp h]; exact ib_kd b
  | .eith a b => ib_tup.mpr fun x h => by
    rcases List.mem_cons.mp h with h | h
    · rw [h]; exact ib_str _
    · rcases List.mem_cons.mp h with h | h
      · rw [h]; exact ib_kd a
      · rw [List.mem_singleton.mp h]; exact ib_kd b
  | .fn a b => ib_tup.mpr fun x h => by
    rcases List.mem_cons.mp h with h | h
    · rw [h]; exact ib_str _
    · rcases List.mem_cons.mp h with h | h
      · rw [h]; exact ib_kd a
      · rw [List.mem_singleton.mp h]; exact ib_kd b
def Kd.mk2 (wd : Str) (a b : Kd) : Kd := if wd = "pair" then .pair a b else if wd = "either" then .eith a b else .fn a b
theorem mk2_d {wd : Str} (h : wd = "pair" ∨ wd = "either" ∨ wd = "fun") (a b : Kd) : (Kd.mk2 wd a b).d = .tuple [.str wd, a.d, b.d] ∧ (Kd.mk2 wd a b).dep = max a.dep b.dep + 1 ∧ (Kd.mk2 wd a b).kz = a.kz + b.kz + 1 ∧ (Kd.mk2 wd a b).okv = (a.okv && b.okv) := by
  rcases h with rfl | rfl | rfl
  · rw [Kd.mk2, if_pos rfl]; exact ⟨rfl, rfl, rfl, rfl⟩
  · rw [Kd.mk2, if_neg (by decide), if_pos rfl]; exact ⟨rfl, rfl, rfl, rfl⟩
  · rw [Kd.mk2, if_neg (by decide), if_neg (by decide)]; exact ⟨rfl, rfl, rfl, rfl⟩
structure Kg (D Z : Nat) (k : Kd) : Prop where
  ov : k.okv = true
  dp : k.dep ≤ D
  kz : k.kz ≤ Z
theorem Kg.mono {D Z D' Z' : Nat} {k : Kd} (h : Kg D Z k) (a : D ≤ D') (b : Z ≤ Z') : Kg D' Z' k := ⟨h.ov, Nat.le_trans h.dp a, Nat.le_trans h.kz b⟩
theorem Kg.sd {D Z : Nat} {k : Kd} (h : Kg D Z k) : Sd D (25 * Z) k.d := ⟨kd_show k h.ov, by rw [Kd.depth]; exact h.dp, Nat.le_trans (sz_kz k h.ov) (Nat.mul_le_mul_left _ h.kz)⟩
theorem Kg.of_dep {D : Nat} {k : Kd} (ov : k.okv = true) (h : k.dep ≤ D) : Kg D (2 ^ D) k := ⟨ov, h, by have := Kd.kz_dep k; have := Nat.pow_le_pow_right (n := 2) (by decide) h; omega⟩
end KB
namespace KB
open PySem L2 PySem.Spec PyProof.Rows
def spTow2 : Sp := fun vs H Q _ => ∃ (w : Addr) (c : Int), vs = [.ref w] ∧ Wl H w c ∧ c + 40 < 2 ^ 60 ∧
  ∀ (v : V) (k : Kd) (c' : Int) (H' : Hp), Dt (Nw w) H' v k.d → Kg 131 400 k → Kw w H H' → Wl H' w c' → c' ≤ c + 40 → Q v H'
def spBp : Sp := fun vs H Q _ => ∃ (w : Addr) (v : V) (k : Kd) (c : Int) (D Z : Nat), vs = [.ref w, v] ∧ Dt (Nw w) H v k.d ∧ Kg D Z k ∧ 3 ≤ D ∧ Wl H w c ∧ c + 40 < 2 ^ 60 ∧
  ∀ (v' : V) (k' : Kd) (c' : Int) (H' : Hp), Dt (Nw w) H' v' k'.d → Kg D (Z + 4) k' → Kw w H H' → Wl H' w c' → c' ≤ c + 20 → Q v' H'
def spWide : Sp := fun vs H Q _ => ∃ (w : Addr) (c : Int), vs = [.ref w] ∧ Wl H w c ∧ c + 400 < 2 ^ 60 ∧
  ∀ (v : V) (k : Kd) (c' : Int) (H' : Hp), Dt (Nw w) H' v k.d → Kg 131 400 k → Kw w H H' → Wl H' w c' → c' ≤ c + 200 → Q v H'
def tws : List (List Str) := [["list"], ["pair", "list"], ["fun", "either", "list"], ["either", "pair"]]
theorem tws_ok : ∀ ws ∈ tws, 0 < ws.length ∧ ws.length ≤ 3 ∧ ∀ x ∈ ws, x = "list" ∨ x = "pair" ∨ x = "either" ∨ x = "fun" := by decide
theorem slT {K : PySem.W.Frag} {F : Addr → Prop} {σ : L2.St} {H : Hp} {u : Nat} {vv : V} {ds : List PyData} {Q : VK} (i : Nat) (hF : ∀ p, H p = none → F p) (su : σ[u]? = some (some vv)) (hv : Dt F H vv (.tuple ds)) (hi : i ≤ ds.length) (q : ∀ v H', Same H H' → Dt F H' v (.tuple (ds.take i)) → Q v H') :
    tSl (rSlA K) (tVar u) tNoPart (tPart (tC (V.int (i : Int)))) σ H Q := ⟨_, su, _, rfl, takeD hF hv hi q⟩
theorem kd_len (k : Kd) : ∃ ds, k.d = .tuple ds ∧ ds.length ≤ 3 ∧ (ds.length = 3 → ∃ (wd : Str) (a b : Kd), (wd = "pair" ∨ wd = "either" ∨ wd = "fun") ∧ k = Kd.mk2 wd a b) := by
  cases k with
  | num => exact ⟨_, rfl, by decide, fun h => by cases h⟩
  | unit => exact ⟨_, rfl, by decide, fun h => by cases h⟩
  | var x => exact ⟨_, rfl, by simp, fun h => by simp at h⟩
  | lst a => exact ⟨_, rfl, by simp, fun h => by simp at h⟩
  | pair a b => exact ⟨_, rfl, by simp, fun _ => ⟨"pair", a, b, .inl rfl, rfl⟩⟩
  | eith a b => exact ⟨_, rfl, by simp, fun _ => ⟨"either", a, b, .inr (.inl rfl), by rw [Kd.mk2, if_neg (by decide), if_pos rfl]⟩⟩
  | fn a b => exact ⟨_, rfl, by simp, fun _ => ⟨"fun", a, b, .inr (.inr rfl), by rw [Kd.mk2, if_neg (by decide), if_neg (by decide)]⟩⟩
theorem ck1 : Ck 1 = 6 := by decide
theorem ck2 : Ck 2 = 14 := by decide
end KB
namespace KB
open PySem L2 PySem.Spec PyProof.Rows
def fD (fl : List (Str × Kd)) : PyData := .tuple (fl.map fun p => .tuple [.str p.1, p.2.d])
structure Fg (fl : List (Str × Kd)) : Prop where
  sub : (fl.map Prod.fst).Sublist abc
  kg : ∀ p ∈ fl, Kg 3 8 p.2 ∧ p.2.closed = true ∧ p.2.noFn = true
def fget (fl : List (Str × Kd)) (x : Str) : List Kd := (fl.filter fun p => decide (V.str p.1 = V.str x)).map Prod.snd
def Kd.put (fl : List (Str × Kd)) : Kd → Kd
  | num => num
  | unit => unit
  | var x => (fget fl x).headD (.var x)
  | lst a => .lst (a.put fl)
  | pair a b => .pair (a.put fl) (b.put fl)
  | eith a b => .eith (a.put fl) (b.put fl)
  | fn a b => .fn (a.put fl) (b.put fl)
theorem put_kids {fl : List (Str × Kd)} : ∀ {k : Kd}, k.isVar = false → (k.put fl).d = .tuple (.str k.word :: k.kids.map fun x => (x.put fl).d)
  | .num, _ => rfl
  | .unit, _ => rfl
  | .var _, h => by cases h
  | .lst a, _ => rfl
  | .pair a b, _ => rfl
  | .eith a b, _ => rfl
  | .fn a b, _ => rfl
def spFil : Sp := fun vs H Q _ => ∃ (w : Addr) (c : Int), vs = [.ref w] ∧ Wl H w c ∧ c + 200 < 2 ^ 60 ∧
  ∀ (v : V) (fl : List (Str × Kd)) (c' : Int) (H' : Hp), Dt (Nw w) H' v (fD fl) → Fg fl → Kw w H H' → Wl H' w c' → c' ≤ c + 120 → Q v H'
def spPut (n : Nat) : Sp := fun vs H Q _ => ∃ (F : Addr → Prop) (kv fv : V) (k : Kd) (fl : List (Str × Kd)), vs = [kv, fv] ∧ Dt F H kv k.d ∧ Dt F H fv (fD fl) ∧ k.dep ≤ n ∧ fl.length ≤ 3 ∧ (∀ p ∈ fl, p.2.okv = true ∧ p.2.dep ≤ 3) ∧
  ∀ (v : V) (H' : Hp), Same H H' → Dt (Ot []) H' v (k.put fl).d → Q v H'
theorem kd_dp {K : PySem.W.Frag} {F : Addr → Prop} {H : Hp} : ∀ {k : Kd} {v : V}, Dt F H v k.d → Dp K H v k.d
  | .num, v, h => by
    obtain ⟨a, rfl, _, h⟩ := kd_at h
    exact .tup (SqT.of h) (.cons (.str _) .nil)
  | .unit, v, h => by
    obtain ⟨a, rfl, _, h⟩ := kd_at h
    exact .tup (SqT.of h) (.cons (.str _) .nil)
  | .var x, v, h => by
    obtain ⟨a, rfl, _, h⟩ := kd_at h
    exact .tup (SqT.of h) (.cons (.str _) (.cons (.str _) .nil))
  | .lst a, v, h => by
    obtain ⟨a, rfl, _, z, h, hz⟩ := kd_at h
    exact .tup (SqT.of h) (.cons (.str _) (.cons (kd_dp hz) .nil))
  | .pair a b, v, h => by
    obtain ⟨a, rfl, _, y, z, h, hy, hz⟩ := kd_at h
    exact .tup (SqT.of h) (.cons (.str _) (.cons (kd_dp hy) (.cons (kd_dp hz) .nil)))
  | .eith a b, v, h => by
    obtain ⟨a, rfl, _, y, z, h, hy, hz⟩ := kd_at h
    exact .tup (SqT.of h) (.cons (.str _) (.cons (kd_dp hy) (.cons (kd_dp hz) .nil)))
  | .fn a b, v, h => by
    obtain ⟨a, rfl, _, y, z, h, hy, hz⟩ := kd_at h
    exact .tup (SqT.of h) (.cons (.str _) (.cons (kd_dp hy) (.cons (kd_dp hz) .nil)))
theorem kds_dp {K : PySem.W.Frag} {F : Addr → Prop} {H : Hp} : ∀ {ks : List Kd} {vs : List V}, DtA F H vs (ks.map Kd.d) → DpAll K H vs (ks.map Kd.d)
  | [], _, h => by cases h; exact .nil
  | k :: ks, _, h => by
    cases h with
    | cons h r => exact .cons (kd_dp h) (kds_dp r)
theorem kws_ok : (kwords.all fun x => PyData.strOk x) = true := by decide +kernel
theorem kw_ok {x : Str} (h : x ∈ kwords) : PyData.strOk x = true := List.all_eq_true.mp kws_ok x h
theorem kd_lay : ∀ k : Kd, k.okv = true → PyData.canLay0 k.d = true
  | .num, _ => by simp [Kd.d, PyData.canLay0, PyData.canLayAll0, kw_ok (x := "num") (by decide)]
  | .unit, _ => by simp [Kd.d, PyData.canLay0, PyData.canLayAll0, kw_ok (x := "unit") (by decide)]
  | .var x, h => by
    have : PyData.strOk x = true := by
      rcases abc_mem h with e | e | e
      · rw [e]; exact kw_ok (by decide)
      · rw [e]; exact kw_ok (by decide)
      · rw [e]; exact kw_ok (by decide)
    simp [Kd.d, PyData.canLay0, PyData.canLayAll0, kw_ok (x := "var") (by decide), this]
  | .lst a, h => by simp [Kd.d, PyData.canLay0, PyData.canLayAll0, kw_ok (x := "list") (by decide), kd_lay a h]
  | .pair a b, h => by
    obtain ⟨o1, o2⟩ := Bool.and_eq_true_iff.mp (show (a.okv && b.okv) = true from h)
    simp [Kd.d, PyData.canLay0, PyData.canLayAll0, kw_ok (x := "pair") (by decide), kd_lay a o1, kd_lay b o2]
  | .eith a b, h => by
    obtain ⟨o1, o2⟩ := Bool.and_eq_true_iff.mp (show (a.okv && b.okv) = true from h)
    simp [Kd.d, PyData.canLay0, PyData.canLayAll0, kw_ok (x := "either") (by decide), kd_lay a o1, kd_lay b o2]
  | .fn a b, h => by
    obtain ⟨o1, o2⟩ := Bool.and_eq_true_iff.mp (show (a.okv && b.okv) = true from h)
    simp [Kd.d, PyData.canLay0, PyData.canLayAll0, kw_ok (x := "fun") (by decide), kd_lay a o1, kd_lay b o2]
theorem kds_shaped {ks : List Kd} (h : ∀ k ∈ ks, k.okv = true ∧ k.dep ≤ 3) : SeqAt.shaped (.list (ks.map Kd.d)) = true := by
  have a : ∀ ks : List Kd, (∀ k ∈ ks, k.okv = true ∧ k.dep ≤ 3) → PyData.canLayAll0 (ks.map Kd.d) = true ∧ PyData.depthAll (ks.map Kd.d) ≤ 3 := fun ks => by
    induction ks with
    | nil => intro _; simp [PyData.canLayAll0, PyData.depthAll]
    | cons k ks ih =>
      intro h
      obtain ⟨h1, h2⟩ := ih fun x hx => h x (List.mem_cons_of_mem _ hx)
      obtain ⟨h3, h4⟩ := h k List.mem_cons_self
      have h5 := Kd.depth k
      refine ⟨by simp [PyData.canLayAll0, kd_lay k h3, h1], ?_⟩
      (simp only [List.map_cons, PyData.depthAll])
      omega
  obtain ⟨h1, h2⟩ := a ks h
  show (PyData.canLay0 (.list (ks.map Kd.d)) && decide ((PyData.list (ks.map Kd.d)).depth ≤ 64)) = true
  rw [show PyData.canLay0 (.list (ks.map Kd.d)) = true by simp only [PyData.canLay0, h1]]
  have : (PyData.list (ks.map Kd.d)).depth ≤ 64 := by simp only [PyData.depth]; omega
  rw [decide_eq_true this]
  rfl
theorem eqv_empty2 (ks : List Kd) : PyData.eqv (.list (ks.map Kd.d)) (.list []) = ks.isEmpty := by
  cases ks <;> rfl
theorem fget_one (fl : List (Str × Kd)) (x : Str) (i : Nat) (p : Str × Kd) (h : fl[i]? = some p) : fget (fl.take (i + 1)) x = fget (fl.take i) x ++ (if decide (V.str p.1 = V.str x) = true then [p.2] else []) := by
  rw [List.take_add_one, h]
  unfold fget
  rw [List.filter_append, List.map_append]
  congr 1
  show List.map Prod.snd (List.filter _ [p]) = _
  rw [List.filter_cons, List.filter_nil]
  by_cases g : decide (V.str p.1 = V.str x) = true
  · rw [if_pos g, if_pos g]; rfl
  · rw [if_neg g, if_neg g]; rfl
theorem fget_mem {fl : List (Str × Kd)} {x : Str} {k : Kd} (h : k ∈ fget fl x) : ∃ p ∈ fl, p.2 = k := by
  (obtain ⟨p, hp, rfl⟩ := List.mem_map.mp h)
  exact ⟨p, (List.mem_filter.mp hp).1, rfl⟩
theorem fget_len (fl : List (Str × Kd)) (x : Str) : (fget fl x).length ≤ fl.length := by
  unfold fget
  rw [List.length_map]
  exact List.length_filter_le _ _
theorem off1 {H : Hp} {D a : Addr} {acc xs : List V} (hD : H D = some (.lst acc)) (h : H a = some (.tup xs)) : Ot [D] a := fun z => by
  rw [List.mem_singleton.mp z, hD] at h
  cases h
theorem kd_off {F : Addr → Prop} {H : Hp} {D : Addr} {acc : List V} (hD : H D = some (.lst acc)) : ∀ {k : Kd} {v : V}, Dt F H v k.d → Dt (Ot [D]) H v k.d
  | .num, v, h => by
    obtain ⟨a, rfl, _, h⟩ := kd_at h
    exact .tup (off1 hD h) h (.cons (.str _) .nil)
  | .unit, v, h => by
    obtain ⟨a, rfl, _, h⟩ := kd_at h
    exact .tup (off1 hD h) h (.cons (.str _) .nil)
  | .var x, v, h => by
    obtain ⟨a, rfl, _, h⟩ := kd_at h
    exact .tup (off1 hD h) h (.cons (.str _) (.cons (.str _) .nil))
  | .lst a, v, h => by
    obtain ⟨a, rfl, _, z, h, hz⟩ := kd_at h
    exact .tup (off1 hD h) h (.cons (.str _) (.cons (kd_off hD hz) .nil))
  | .pair a b, v, h => by
    obtain ⟨a, rfl, _, y, z, h, hy, hz⟩ := kd_at h
    exact .tup (off1 hD h) h (.cons (.str _) (.cons (kd_off hD hy) (.cons (kd_off hD hz) .nil)))
  | .eith a b, v, h => by
    obtain ⟨a, rfl, _, y, z, h, hy, hz⟩ := kd_at h
    exact .tup (off1 hD h) h (.cons (.str _) (.cons (kd_off hD hy) (.cons (kd_off hD hz) .nil)))
  | .fn a b, v, h => by
    obtain ⟨a, rfl, _, y, z, h, hy, hz⟩ := kd_at h
    exact .tup (off1 hD h) h (.cons (.str _) (.cons (kd_off hD hy) (.cons (kd_off hD hz) .nil)))
theorem put_row (fl : List (Str × Kd)) (ks : List Kd) (i : Nat) (k : Kd) (h : ks[i]? = some k) : (ks.take (i + 1)).map (fun x => (x.put fl).d) = (ks.take i).map (fun x => (x.put fl).d) ++ [(k.put fl).d] := by
  rw [List.take_add_one, h, List.map_append]
  rfl
end KB
namespace KB
open PySem L2 PySem.Spec PyProof.Rows
theorem kd_offN {F : Addr → Prop} {H : Hp} {D : Addr} {acc : List V} (hD : H D = some (.lst acc)) : ∀ {k : Kd} {v : V}, Dt F H v k.d → Dt (fun a => F a ∧ a ≠ D) H v k.d := by
  have ne : ∀ {a : Addr} {xs : List V}, H a = some (.tup xs) → a ≠ D := fun h z => by
    rw [z, hD] at h
    cases h
  intro k
  induction k with
  | num =>
    intro v h
    obtain ⟨a, rfl, fa, h⟩ := kd_at h
    exact .tup ⟨fa, ne h⟩ h (.cons (.str _) .nil)
  | unit =>
    intro v h
    obtain ⟨a, rfl, fa, h⟩ := kd_at h
    exact .tup ⟨fa, ne h⟩ h (.cons (.str _) .nil)
  | var x =>
    intro v h
    obtain ⟨a, rfl, fa, h⟩ := kd_at h
    exact .tup ⟨fa, ne h⟩ h (.cons (.str _) (.cons (.str _) .nil))
  | lst a ih =>
    intro v h
    obtain ⟨a, rfl, fa, z, h, hz⟩ := kd_at h
    exact .tup ⟨fa, ne h⟩ h (.cons (.str _) (.cons (ih hz) .nil))
  | pair a b ia ib =>
    intro v h
    obtain ⟨a, rfl, fa, y, z, h, hy, hz⟩ := kd_at h
    exact .tup ⟨fa, ne h⟩ h (.cons (.str _) (.cons (ia hy) (.cons (ib hz) .nil)))
  | eith a b ia ib =>
    intro v h
    obtain ⟨a, rfl, fa, y, z, h, hy, hz⟩ := kd_at h
    exact .tup ⟨fa, ne h⟩ h (.cons (.str _) (.cons (ia hy) (.cons (ib hz) .nil)))
  | fn a b ia ib =>
    intro v h
    obtain ⟨a, rfl, fa, y, z, h, hy, hz⟩ := kd_at h
    exact .tup ⟨fa, ne h⟩ h (.cons (.str _) (.cons (ia hy) (.cons (ib hz) .nil)))
theorem ck3 : ∀ n, n ≤ 3 → Ck n ≤ 30 := by decide
def pD2 (p : Str × Kd) : PyData := .tuple [.str p.1, p.2.d]
theorem bools3 (a b c : Bool) : (PyData.list [.bool a, .bool b, .bool c]).showable = true ∧ (PyData.list [.bool a, .bool b, .bool c]).depth ≤ 180 ∧ sz (.list [.bool a, .bool b, .bool c]) ≤ 10000000 := by
  cases a <;> cases b <;> cases c <;> exact ⟨by decide +kernel, by decide +kernel, by decide +kernel⟩
def spJd : Sp := fun vs H Q _ => ∃ (F : Addr → Prop) (v : V) (b : Bool) (d : PyData), vs = [v, .bl b] ∧ Dt F H v d ∧ d.showable = true ∧ d.depth ≤ 170 ∧ sz d ≤ 4000000 ∧ ∀ H', Same H H' → Q (.bl true) H'
def g1 {α : Type} (us ws : List α) : List α := match us, ws with
  | [], [v] => [v]
  | _, _ => []
theorem g1_rel {vs : List V} {us : List Value} {zs : List V} {ws : List Value} (r : Vals vs us) (q : Vals zs ws) : Vals (g1 vs zs) (g1 us ws) := by
  cases r with
  | cons _ _ => exact .nil
  | nil =>
    cases q with
    | nil => exact .nil
    | cons a q => cases q with
      | nil => exact .cons a .nil
      | cons b q => exact .nil
end KB
namespace KB
open PySem L2 PySem.Spec PyProof.Rows
def spTold : Sp := fun vs H Q _ => ∃ (w : Addr) (v : V) (k : Kd) (c : Int), vs = [.ref w, v] ∧ Dt (Nw w) H v k.d ∧ Kg 100 400 k ∧ Wl H w c ∧ c + 400 < 2 ^ 60 ∧ ∀ (c' : Int) (H' : Hp), Kw w H H' → Wl H' w c' → c' ≤ c + 300 → Q (.bl true) H'
def truthK : Kd := .eith .unit .unit
def spSameT (K : PySem.W.Frag) : Sp := fun vs H Q _ => ∃ (x y : V), vs = [x, y] ∧ Dp K H x truthK.d ∧ Dp K H y truthK.d ∧ Q (.bl true) H
def spRt : Sp := fun vs H Q _ => ∃ (w : Addr) (c : Int), vs = [.ref w] ∧ Wl H w c ∧ c + 8000 < 2 ^ 60 ∧ ∀ H' : Hp, Kw w H H' → Q (.bl true) H'
structure Jk (d : PyData) : Prop where
  sh : d.showable = true
  dp : d.depth ≤ 170
  z : sz d ≤ 4000000
theorem ck6 : ∀ n, n ≤ 6 → Ck n ≤ 254 := by decide
theorem kz6 {k : Kd} {n : Nat} (hn : n ≤ 6) (h : k.dep ≤ max n 1) : k.dep ≤ 131 ∧ k.kz ≤ 400 := by
  have h1 := Kd.kz_dep k
  have h2 := Nat.pow_le_pow_right (n := 2) (by decide) (show k.dep ≤ 6 by omega)
  omega
theorem kg_jk {D Z : Nat} {k : Kd} (h : Kg D Z k) (hD : D ≤ 131) (hZ : Z ≤ 400) : Jk k.d :=
  ⟨h.sd.sh, by have := h.sd.dp; omega, by have := h.sd.ln; have := Nat.mul_le_mul_left 25 hZ; omega⟩
end KB
namespace KB
open PySem L2 PySem.Spec PyProof.Rows
theorem kd_reads {X : Cx} {pins : List (Addr × Obj)} {σ : L2.St} {H : Hp} {s : Shared} (I : Inv X pins σ H s) : ∀ (k : Kd) {v : V} {u : Value}, Dp X.K H v k.d → RelV v u → Reads s.heap u k.d []
  | .num, v, u, h, r => by
    cases h with
    | tup hs ha =>
      cases r
      (obtain ⟨its, rv, ⟨o, ho, hc, n, hd⟩, _⟩ := I.tuple hs)
      cases ha with
      | cons h1 h2 =>
        cases h2
        cases h1
        cases rv with
        | cons r1 r2 =>
          cases r2
          obtain ⟨t, rfl⟩ := r1
          exact Reads.tuple ho hc hd (ReadsAll.cons (Reads.str _ t) ReadsAll.nil)
  | .unit, v, u, h, r => by
    cases h with
    | tup hs ha =>
      cases r
      (obtain ⟨its, rv, ⟨o, ho, hc, n, hd⟩, _⟩ := I.tuple hs)
      cases ha with
      | cons h1 h2 =>
        cases h2
        cases h1
        cases rv with
        | cons r1 r2 =>
          cases r2
          obtain ⟨t, rfl⟩ := r1
          exact Reads.tuple ho hc hd (ReadsAll.cons (Reads.str _ t) ReadsAll.nil)
  | .var x, v, u, h, r => by
    cases h with
    | tup hs ha =>
      cases r
      (obtain ⟨its, rv, ⟨o, ho, hc, n, hd⟩, _⟩ := I.tuple hs)
      cases ha with
      | cons h1 h2 => cases h2 with
        | cons h3 h4 =>
          cases h4
          cases h1
          cases h3
          cases rv with
          | cons r1 r2 => cases r2 with
            | cons r3 r4 =>
              cases r4
              obtain ⟨t, rfl⟩ := r1
              obtain ⟨t', rfl⟩ := r3
              exact Reads.tuple ho hc hd (ReadsAll.cons (Reads.str _ t) (ReadsAll.cons (Reads.str _ t') ReadsAll.nil))
  | .lst a, v, u, h, r => by
    cases h with
    | tup hs ha =>
      cases r
      (obtain ⟨its, rv, ⟨o, ho, hc, n, hd⟩, _⟩ := I.tuple hs)
      cases ha with
      | cons h1 h2 => cases h2 with
        | cons h3 h4 =>
          cases h4
          cases h1
          cases rv with
          | cons r1 r2 => cases r2 with
            | cons r3 r4 =>
              cases r4
              obtain ⟨t, rfl⟩ := r1
              exact Reads.tuple ho hc hd (ReadsAll.cons (Reads.str _ t) (ReadsAll.cons (kd_reads I a h3 r3) ReadsAll.nil))
  | .pair a b, v, u, h, r => two I (kd_reads I a) (kd_reads I b) h r
  | .eith a b, v, u, h, r => two I (kd_reads I a) (kd_reads I b) h r
  | .fn a b, v, u, h, r => two I (kd_reads I a) (kd_reads I b) h r
where
  two {X : Cx} {pins : List (Addr × Obj)} {σ : L2.St} {H : Hp} {s : Shared} (I : Inv X pins σ H s) {a b : Kd} {x : Str} {v : V} {u : Value} (ka : ∀ {v : V} {u : Value}, Dp X.K H v a.d → RelV v u → Reads s.heap u a.d []) (kb : ∀ {v : V} {u : Value}, Dp X.K H v b.d → RelV v u → Reads s.heap u b.d [])
      (h : Dp X.K H v (.tuple [.str x, a.d, b.d])) (r : RelV v u) : Reads s.heap u (.tuple [.str x, a.d, b.d]) [] := by
    cases h with
    | tup hs ha =>
      cases r
      (obtain ⟨its, rv, ⟨o, ho, hc, n, hd⟩, _⟩ := I.tuple hs)
      cases ha with
      | cons h1 h2 => cases h2 with
        | cons h3 h4 => cases h4 with
          | cons h5 h6 =>
            cases h6
            cases h1
            cases rv with
            | cons r1 r2 => cases r2 with
              | cons r3 r4 => cases r4 with
                | cons r5 r6 =>
                  cases r6
                  obtain ⟨t, rfl⟩ := r1
                  exact Reads.tuple ho hc hd (ReadsAll.cons (Reads.str _ t) (ReadsAll.cons (ka h3 r3) (ReadsAll.cons (kb h5 r5) ReadsAll.nil)))
def rReprT (K : PySem.W.Frag) : List V → Hp → VK → Prop := fun xs H Q => ∃ (v : V) (k : Kd), xs = [v] ∧ Dp K H v k.d ∧ k.okv = true ∧ k.dep ≤ 100 ∧ k.kz ≤ 1000 ∧ Q (.str k.d.shown) H
theorem call_reprT {X : Cx} {k : Nat} (hg : X.A.guards = some []) (hr : Room k X.A) : CallR X (.builtin "repr") (rReprT X.K) := by
  (intro pins s σ H xs us Q I r h)
  obtain ⟨v, kd, rfl, hd, ov, dp, kz, q⟩ := h
  have sh := kd_show kd ov
  have ln : kd.d.shown.length ≤ sizeLine := Nat.le_trans (sz_shown _) (Nat.le_trans (sz_kz kd ov) (Nat.le_trans (Nat.mul_le_mul_left 25 kz) (by decide)))
  (obtain ⟨u, rfl, ru⟩ := vals1 r)
  have rd := kd_reads I kd hd ru
  have room := hr.un
  have de := Kd.depth kd
  obtain ⟨ds, ed⟩ : ∃ ds, kd.d = .tuple ds := by cases kd <;> exact ⟨_, rfl⟩
  rw [ed] at rd sh ln q de
  cases rd with
  | tuple h1 h2 h3 h4 => exact repr_of_reads' (.tuple h1 h2 h3 h4) sh (fun _ => by simp) hg (by omega) (fun _ _ e => e) (fun h' u tk k => ⟨.str _, H, I.kept k, ⟨_, rfl⟩, q⟩) ln
end KB
namespace KB
open PySem L2 PySem.Spec PyProof.Rows
def TxSet (P : Program) (w : World) (h : Heap) (a : Addr) (l : List Str) : Prop :=
  ∃ D : Froz.SD, h.get? a = some (Froz.sObj "set" D) ∧ Froz.TxOk P w D l ∧ l.Nodup ∧ l.length ≤ 50 ∧ Ris D.2.2.place.toList ∧ (w.params.followText "set-order" = true ∨ D.2.2.led = true)
section
variable {P : Program} {w : World} {h h' : Heap} {a : Addr} {l : List Str}
theorem TxSet.at (R : TxSet P w h a l) (k : ∀ o, h.get? a = some o → h'.get? a = some o) : TxSet P w h' a l := by
  obtain ⟨D, ho, r⟩ := R
  exact ⟨D, k _ ho, r⟩
theorem TxSet.ob (R : TxSet P w h a l) : ∃ o, h.get? a = some o := by
  obtain ⟨D, ho, _⟩ := R
  exact ⟨_, ho⟩
theorem add_walk {D : Froz.SD} {x : Int} {v : Value} (r : Ris D.2.2.place.toList) : Ris (Froz.addTx x v D).2.2.place.toList ∧ (D.2.2.led = true → (Froz.addTx x v D).2.2.led = true) := by
  obtain ⟨es, ep, t⟩ := D
  have r1 := layNew_ris t es x v r
  have l1 := layNew_led t es x v
  unfold Froz.addTx
  dsimp only
  generalize layNew t es x v = Z at r1 l1 ⊢
  obtain ⟨es1, t1, wd, gv⟩ := Z
  dsimp only at r1 l1 ⊢
  have two : ∀ t2 : SetTable, t2.place = t1.place → t2.led = t1.led → Ris (Froz.tailTx ep es1 t2 wd).2.2.place.toList ∧ (t.led = true → (Froz.tailTx ep es1 t2 wd).2.2.led = true) := fun t2 e1 e2 => by
    unfold Froz.tailTx
    split
    · exact ⟨relayAll_ris t2 es1 _, fun z => by
        show (relayAll t2 es1 _).2.1.led = true
        rw [relayAll_led, e2, l1]; exact z⟩
    · exact ⟨by show Ris t2.place.toList; rw [e1]; exact r1, fun z => by show t2.led = true; rw [e2, l1]; exact z⟩
  split
  · exact two _ rfl rfl
  · exact two _ rfl rfl
end
section
variable {P : Program} {w : World} {A : Around} {E : Value → Shared → Prop} {s : Shared} {a : Addr} {l : List Str}
theorem again_x {D : Froz.SD} {k : Str} {u : Tok} {Q : Bool → Shared → Prop} (ho : s.heap.get? a = some (Froz.sObj "set" D)) (F : Froz.TxOk P w D l) (hk : k ∈ l) (hb : l.length < scanBound) (q : Q false s) :
    wpAny (model P w) A (setAddHashed a (.str k u) (hashStr w k)) Q E s := by
  obtain ⟨es, ep, t⟩ := D
  have fz : es.size = l.length := F.sz
  have el : ElemsOf (strKind P w) es.toList := F.el
  obtain ⟨e, he, ke⟩ := (F.mem k).mp hk
  (unfold setAddHashed setAddHashedIn)
  refine wpAny_holding (wpAny_bind (wpAny_setState_of (es := es) (ep := ep) (t := t) ho rfl F.fit ?_))
  dsimp only
  rw [byScan_of (x := .str k u) rfl (by rw [fz]; exact hb) el]
  simp only [if_true]
  unfold setAddByScan
  refine wpAny_bind (wpAny_bind (wpAny_rule (wpAny_bind (wpAny_setScan_of (knd := strKind P w) (k := k) (Froz.is_str k u) ho rfl F.fit el ?_))))
  cases fi : es.toList.findIdx? (fun e => (strKind P w).is k e.2) with
  | none => exact absurd ke (by rw [List.findIdx?_eq_none_iff.mp fi e he]; exact Bool.false_ne_true)
  | some j =>
    dsimp only
    exact wpAny_pure (wpAny_pure q)
theorem txset_add {k : Str} {u : Tok} {Q : Value → Shared → Prop} (R : TxSet P w s.heap a l) (room : l.length < 50)
    (q : ∀ h', Heap.SameBut a s.heap h' → TxSet P w h' a (if k ∈ l then l else k :: l) → Q .none { s with heap := h', toks := s.toks + 1 }) :
    wpAny (model P w) A (call (.builtin "set.add") [.ref a, .str k u]) Q E s := by
  obtain ⟨D, ho, tx, nd, lz, ri, le⟩ := R
  have ty : s.TypeIs (.ref a) "set" := ⟨_, ho, rfl⟩
  have big : 100 ≤ scanBound := by decide
  refine wpAny_call_entry F.slot_set_add ty F.entry_set_add ?_ (F.args_set_add_2 _ _)
  unfold Builtin.«set.add» Builtin.Frozenset.oneOther Builtin.Frozenset.addrOf setAdd
  (simp only [List.isEmpty_nil, bind_assoc])
  refine wpAny_bind (wpAny_pure (wpAny_bind (wpAny_pure (wpAny_bind (wpAny_holding (wpAny_bind ((strKind P w).pyHash (Froz.is_str k u) ?_)))))))
  by_cases hk : k ∈ l
  · refine again_x (s := { s with toks := s.toks + 1 }) ho tx hk (by omega) ?_
    (show wpAny _ _ (ret Value.none) _ _ _)
    (refine wpAny_pure ⟨_, rfl, ?_⟩)
    have := q s.heap (Heap.SameBut.refl a s.heap) (by rw [if_pos hk]; exact ⟨D, ho, tx, nd, lz, ri, le⟩)
    exact this
  · refine Froz.add_x (s := { s with toks := s.toks + 1 }) ho tx hk (by omega) ?_
    (show wpAny _ _ (ret Value.none) _ _ _)
    refine wpAny_pure ⟨_, rfl, q _ (Heap.SameBut.update s.heap a _) ?_⟩
    obtain ⟨w1, w2⟩ := add_walk (x := hashStr w k) (v := .str k u) ri
    rw [if_neg hk]
    exact ⟨_, Froz.get_upd _ ho rfl, Froz.add_ok u tx, List.nodup_cons.mpr ⟨hk, nd⟩, by rw [List.length_cons]; omega, w1, le.imp id w2⟩
theorem txset_new {h : Heap} : TxSet P w (h.push { cls := .type "set", dict := none, data := .set #[] 0 (.fresh 0 0 (!w.params.followText "set-order")) }) h.objs.size [] :=
  ⟨(#[], 0, .fresh 0 0 (!w.params.followText "set-order")), Heap.get?_push_size _ rfl, Froz.TxOk.nil (by rfl), List.nodup_nil, by simp, List.Pairwise.nil, by
    (show _ ∨ (!w.params.followText "set-order") = true)
    cases w.params.followText "set-order" with
    | true => exact .inl rfl
    | false => exact .inr rfl⟩
theorem strs_of : ∀ {vs : List Value}, (∀ v ∈ vs, ∃ k t, v = Value.str k t) → ∃ ss, StrsAre vs ss
  | [], _ => ⟨[], .nil⟩
  | v :: vs, h => by
    obtain ⟨k, t, rfl⟩ := h v List.mem_cons_self
    obtain ⟨ss, r⟩ := strs_of fun x hx => h x (List.mem_cons_of_mem _ hx)
    exact ⟨k :: ss, .cons k t r⟩
theorem strs_mem : ∀ {vs : List Value} {ss : List Str}, StrsAre vs ss → ∀ k, k ∈ ss ↔ ∃ t, Value.str k t ∈ vs
  | _, _, .nil, k => by simp
  | _, _, .cons x t r, k => by
    rw [List.mem_cons, strs_mem r k]
    constructor
    · rintro (rfl | ⟨t', h⟩)
      · exact ⟨t, List.mem_cons_self⟩
      · exact ⟨t', List.mem_cons_of_mem _ h⟩
    · rintro ⟨t', h⟩
      (rcases List.mem_cons.mp h with e | h)
      · injection e with e1 _
        exact .inl e1
      · exact .inr ⟨t', h⟩
theorem txset_sorted {Q : Value → Shared → Prop} (R : TxSet P w s.heap a l) (hh : A.handled = none)
    (q : ∀ s' p (out : Array Value) (c : Nat) (ss : List Str), (∀ b o, s.heap.get? b = some o → s'.heap.get? b = some o) → s'.gens = s.gens → s'.os = s.os → s.heap.objs.size ≤ p →
      s'.heap.get? p = some (seqObj "list" out c) → StrsAre out.toList ss → sortedS ss = true → (∀ k, k ∈ ss ↔ k ∈ l) → ss.length = l.length → Q (.ref p) s') : wpAny (model P w) A (call (.builtin "sorted") [.ref a]) Q E s := by
  obtain ⟨⟨es, ep, t⟩, ho, tx, nd, lz, ri, le⟩ := R
  have big : 100 ≤ scanBound := by decide
  have fz : es.size = l.length := tx.sz
  (refine Calls.call_function_entry kind_sorted plain_sorted entry_sorted (args_sorted1 _) ?_)
  unfold Builtin.«sorted»
  refine wpAny_bind (m := checkCount "sorted" 1 1 _) (wpAny_pure (wpAny_bind (collect_set (A := A.in1) hh ⟨_, ho, rfl, rfl⟩ tx.fit (by show es.size < scanBound; omega) ri le fun s1 vs k1 hz g1 o1 pm => ?_)))
  have lv : vs.length = l.length := by rw [pm.length_eq, List.length_map, Array.length_toList]; exact fz
  obtain ⟨ss0, rs⟩ := strs_of (vs := vs) fun v hv => by
    obtain ⟨e, he, rfl⟩ := List.mem_map.mp (pm.mem_iff.mp hv)
    obtain ⟨⟨k, hk, _⟩, _⟩ := tx.el e he
    obtain ⟨t, ht⟩ := Value.isStrOf_shape hk
    exact ⟨k, t, ht⟩
  have mem0 : ∀ k, k ∈ ss0 ↔ k ∈ l := fun k => by
    rw [strs_mem rs k, tx.mem k]
    constructor
    · rintro ⟨t, ht⟩
      obtain ⟨e, he, ee⟩ := List.mem_map.mp (pm.mem_iff.mp ht)
      exact ⟨e, he, by rw [show e.2 = Value.str k t from ee]; exact Froz.is_str k t⟩
    · rintro ⟨e, he, hk⟩
      obtain ⟨t, ht⟩ := Value.isStrOf_shape hk
      exact ⟨t, pm.mem_iff.mpr (List.mem_map.mpr ⟨e, he, ht⟩)⟩
  refine wpAny_bind (wpAny_newList ?_ (by rw [lv, sizeLine_eq]; omega))
  (have hoL : (s1.heap.push (seqObj "list" vs.toArray 0)).get? s1.heap.objs.size = some (seqObj "list" vs.toArray 0) := Heap.get?_push_size _ rfl)
  refine wpAny_bind (wpAny_holding (wpAny_call_entry slot_list_sort ⟨_, hoL, rfl⟩ entry_list_sort (list_sort_treeK strKind_oneLt hoL rs.keysOf (fun v₁ v₂ rest e => keyKind_strs (by rw [← e]; exact rs)) (by rw [lv]; omega) fun st' hp hs => ⟨_, rfl, ?_⟩) (args_list_sort _)))
  obtain ⟨ss', r1, r2, r3⟩ := sorted_out_str rs hp hs
  obtain ⟨c, hc⟩ := sortedHeap_at (vs := vs) (out := (arrOf st').map (·.2)) hoL
  refine wpAny_pure ⟨_, rfl, q _ s1.heap.objs.size _ c ss' (fun b u e => ?_) g1 o1 hz hc r1 r3 (fun k => by rw [r2.mem_iff]; exact mem0 k) ?_⟩
  · have e1 := k1 b u e
    have lt := Heap.lt_size e1
    show (sortedHeap (s1.heap.push (seqObj "list" vs.toArray 0)) s1.heap.objs.size vs _).get? b = some u
    rw [sortedHeap_old (Nat.ne_of_lt lt) (by rw [Heap.size_push]; exact Nat.lt_succ_of_lt lt)]
    exact Heap.get?_push_of_some _ e1
  · rw [r2.length_eq, ← rs.length]
    exact lv
end
end KB
namespace KB
open PySem PySem.Spec PyProof.Rows L2 PpSet
def TxO (P : Program) (w : World) (a : Addr) (l : List Str) : HO := .ext fun h => TxSet P w h a l
theorem txO_new {w : World} {P : Program} {H : Hp} {h : Heap} {a : Addr} {l : List Str} (R : TxSet P w h a l) : ObjOk P w H h a (TxO P w a l) := ⟨R, R.ob, fun _ _ p k => TxSet.at p k⟩
section
variable {X : Cx}
theorem txO_add {pins : List (Addr × Obj)} {σ : L2.St} {H : Hp} {s : Shared} {E : Value → Shared → Prop} {D : Addr} {l : List Str} {k : Str} {u : Tok} {Q : Value → Shared → Prop} (I : Inv X pins σ H s) (hD : H D = some (TxO X.prog X.w D l)) (room : l.length < 50)
    (q : ∀ s', Inv X pins σ (upd H D (TxO X.prog X.w D (if k ∈ l then l else k :: l))) s' → Q .none s') : wpAny (model X.prog X.w) X.A (call (.builtin "set.add") [.ref D, .str k u]) Q E s := by
  have R : TxSet X.prog X.w s.heap D l := (I.hok D _ hD).1
  exact txset_add R room fun h' sb new => q _ (I.write (e := D) (t' := s.toks + 1) (by rw [hD]; trivial) (.inl rfl) (fun b o hb ho => (sb.2 b hb).trans ho) new.ob (txO_new new))
def tSs (P : Program) (w : World) (wi : TI) (g : TG) (tt : TT) (te : TE) (vs : List Nat) : TE := fun σ H Q => wi σ H fun J H1 => ∀ D, H1 D = none → ∃ W : Nat → Nat → Hp → Prop, (∃ m, W 0 m (upd H1 D (TxO P w D []))) ∧ ∀ i m H, W i m H → (J.stop i H ∧ Q (.ref D) H) ∨ (J.go i H ∧ ∃ Nx : Hp → Prop, (∀ H', Nx H' → ∃ m', m' < m ∧ W (i + 1) m' H') ∧ ∀ x H', J.yld i H x H' → g x (wipe σ vs) H' fun σ2 H2 => wipe σ2 vs = wipe σ vs ∧ tt σ2 H2 fun b H3 =>
    if b = true then te σ2 H3 fun y H4 => ∃ (k : Str) (l : List Str), y = .str k ∧ H4 D = some (TxO P w D l) ∧ l.length < 50 ∧ Nx (upd H4 D (TxO P w D (if k ∈ l then l else k :: l))) else Nx H3)
theorem pe_ss {elt tg iter : Expr} {ifs : List Expr} {scope : Scope} {own : List (Str × Nat)} {pos : Pos} {wi : TI} {g : TG} {tt : TT} {te : TE} (hc : X.calm = true) (hN : X.N.Nodup) (hi : PI X tg iter wi) (ok : BlkOk X.N X.env.scope scope own) (hg : ∀ (s : Shared) (H : Hp) (C : Addr) (cl : List (Str × Addr)) (fp : List Addr), PG (X.blk s H scope (compEnvC scope cl C X.env) fp) tg g) (ht : ∀ (s : Shared) (H : Hp) (C : Addr) (cl : List (Str × Addr)) (fp : List Addr), PTs (X.blk s H scope (compEnvC scope cl C X.env) fp) ifs tt) (he : ∀ (s : Shared) (H : Hp) (C : Addr) (cl : List (Str × Addr)) (fp : List Addr), PE (X.blk s H scope (compEnvC scope cl C X.env) fp) elt te) (hs : ∀ x, foldedSetIterable iter X.env x = pure x := by intro _; rfl) :
    PE X (.SetComp elt [⟨tg, iter, ifs, 0⟩] scope pos) (tSs X.prog X.w wi g tt te (own.map (·.2))) := by
  (refine ⟨fun pins s σ H Q I h => ?_⟩)
  have free : ∀ y ∈ scope.names, y.2 = .free → ∃ c, X.env.cells.lookup y.1 = some c := fun y hy e => (ok.free y hy e).elim (fun k => I.ok.has _ (.inl k)) fun k => I.ok.has _ (.inr k)
  rw [eval_SetComp]
  refine wpAny_comprehension_free (use := none) rfl hs (closure_ok free) ok.kind (fun y hy e => by rw [ok.uniq y hy, e]) (thn (hi.run pins s σ H _ I h) fun xv s1 hx => thn hx fun itv s2 h2 => ?_)
  obtain ⟨it, fp, tn, J, H2, rfl, I2, T, st2, f2, q⟩ := h2
  (refine newSet_ok (newEnv_comp ?_))
  obtain ⟨D, hD⟩ : ∃ D, s2.heap.objs.size = D := ⟨_, rfl⟩
  obtain ⟨W, ⟨m0, w0⟩, turn⟩ := q D (I2.hok.fresh (Nat.le_of_eq hD))
  have stays : ∀ b ∈ fp, b < s2.heap.objs.size := fun b hb => by
    (obtain ⟨o, e, _⟩ := T.obj _ _ st2 b hb)
    exact Heap.lt_size e
  obtain ⟨s3, hs3⟩ : ∃ s3 : Shared, ({ s2 with heap := s2.heap.push { cls := .type "set", dict := none, data := .set #[] 0 (.fresh 0 0 (!X.w.params.followText "set-order")) } } : Shared) = s3 := ⟨_, rfl⟩
  have kept3 : ∀ b o, s2.heap.get? b = some o → s3.heap.get? b = some o := fun b o e => by rw [← hs3]; exact Heap.get?_push_of_some _ e
  have size3 : s3.heap.objs.size = s2.heap.objs.size + 1 := by rw [← hs3]; exact Heap.size_push _ _
  obtain ⟨H3, hH3⟩ : ∃ H3, upd H2 D (TxO X.prog X.w D []) = H3 := ⟨_, rfl⟩
  have I3 : Inv X pins σ H3 s3 := by
    rw [← hs3, ← hH3]
    (refine I2.laid (t' := s2.toks) (fun b o e => Heap.get?_push_of_some _ e) (Nat.le_of_eq hD) ?_)
    rw [← hD]
    exact txO_new txset_new
  have f3 : ∀ b ∈ fp, FpOk X pins H3 b ∧ b < s3.heap.objs.size := fun b hb => by
    have lt := stays b hb
    refine ⟨⟨?_, (f2 b hb).2⟩, Nat.lt_of_lt_of_le lt (by rw [size3]; exact Nat.le_succ _)⟩
    rw [← hH3, upd_ne (by rw [← hD]; exact Nat.ne_of_lt lt)]
    exact (f2 b hb).1
  rw [hH3] at w0
  (have I4 := block_start I3 ok hN f3)
  have st3 : tn 0 s3.heap := T.keep _ _ _ st2 fun b _ o e => kept3 b o e
  have none3 : ∀ b ∈ fp, H3 b = none := fun b hb => (f3 b hb).1.1
  rw [hD, hs3]
  obtain ⟨C, hC⟩ : ∃ C, s3.heap.objs.size = C := ⟨_, rfl⟩
  obtain ⟨ce, hce⟩ : ∃ ce, compEnvC scope (cellsFrom (s3.heap.objs.size + 1) scope.names (cloFrom X.env.cells scope.names [])) s3.heap.objs.size X.env = ce := ⟨_, rfl⟩
  have cL : ce.locals = s3.heap.objs.size := by rw [← hce]; rfl
  have rg := hg s3 H3 s3.heap.objs.size (cellsFrom (s3.heap.objs.size + 1) scope.names (cloFrom X.env.cells scope.names [])) fp
  have rt := ht s3 H3 s3.heap.objs.size (cellsFrom (s3.heap.objs.size + 1) scope.names (cloFrom X.env.cells scope.names [])) fp
  have re := he s3 H3 s3.heap.objs.size (cellsFrom (s3.heap.objs.size + 1) scope.names (cloFrom X.env.cells scope.names [])) fp
  show codeAny _ _ (.compStart (.SetComp elt [⟨tg, iter, ifs, 0⟩] scope pos) 0 (.ref it) (.ref D) (compEnvC scope (cellsFrom (s3.heap.objs.size + 1) scope.names (cloFrom X.env.cells scope.names [])) s3.heap.objs.size X.env)) _ { s3 with heap := pushCells (s3.heap.push { cls := .type "dict", data := .dict #[] }) scope.names }
  rw [hce] at I4 rg rt re ⊢
  obtain ⟨s4, hs4⟩ : ∃ s4 : Shared, ({ s3 with heap := pushCells (s3.heap.push { cls := .type "dict", data := .dict #[] }) scope.names } : Shared) = s4 := ⟨_, rfl⟩
  rw [hs4] at I4 ⊢
  (have st4 : tn 0 s4.heap := T.keep _ _ _ st3 fun b _ o e => by rw [← hs4]; exact pushCells_keeps _ _ _ _ (Heap.get?_push_of_some _ e))
  -- what the walked thing asks, in the block
  have asks : ∀ {σ' : L2.St} {H' : Hp} {s' : Shared}, Inv (X.blk s3 H3 scope ce fp) [] σ' H' s' → (∀ b ∈ fp, H' b = none) → ∀ b ∈ fp, FpOk (X.blk s3 H3 scope ce fp) [] H' b := fun I' hn b hb => ⟨hn b hb, (I'.ok.exf b hb).1, I'.ok.exfs b hb, .inl hb, fun x c e => (I'.ok.exf b hb).2 x c e, fun p hp => absurd (show p ∈ ([] : List (Addr × Obj)) ++ [] from hp) (by simp)⟩
  refine codeAny_compStart_set ?loop (T.self X.A 0 _ _ _ st4 ?loop)
  refine compLoopS_any (fun n s' => ∃ i H', Inv (X.blk s3 H3 scope ce fp) [] (wipe σ (own.map (·.2))) H' s' ∧ tn i s'.heap ∧ (∀ b ∈ fp, H' b = none) ∧ W i n H') ?_ m0 ⟨0, H3, I4, st4, none3, w0⟩
  (rintro n s5 ⟨i, H5, I5, st5, n5, w5⟩)
  (rcases turn i n H5 w5 with ⟨stop, qq⟩ | ⟨go, Nx, hNx, step⟩)
  · -- the end: back in the def's own context
    refine thnF (T.done (X.blk s3 H3 scope ce fp) rfl rfl rfl hc i [] s5 _ H5 (fun _ _ => False) I5 (asks I5 n5) st5 stop) fun r s6 ⟨hr, I6⟩ => ?_
    subst hr
    have I7 : Inv X pins σ H5 s6 := I3.call' (ch := fp) I6.os I6.base I6.hok I6.bare fun b hb =>
      have z := (f3 b hb).1.2
      ⟨z.2.2.1, z.1, z.2.2.2.1, z.2.2.2.2⟩
    obtain ⟨m, hn, _⟩ := I6.loc
    (have hn : s6.heap.Ns ce.locals m := hn)
    have nC : H5 ce.locals = none := I6.free
    rw [cL] at hn nC
    refine ⟨m, hn, fun h'' sb => ?_⟩
    obtain ⟨a0, a1, a2, a3, a4, a5⟩ := I3.fpOk (Nat.le_refl _) nC
    exact ⟨.ref D, H5, I7.turned (t' := s6.toks) (fun b o hb e => (sb.2 b hb).trans e) a0 a1 a3 a4 a5, rfl, qq⟩
  · -- a turn
    refine thnF (T.item (X.blk s3 H3 scope ce fp) rfl rfl rfl hc i [] s5 _ H5 (fun _ _ => False) I5 (asks I5 n5) st5 go) fun r s6 ⟨u, hr, h6⟩ => ?_
    subst hr
    (refine thnF h6 fun _ s7 ⟨x, H7, I7, r7, y7, st7, n7⟩ => ?_)
    have I7' := I7.pinned (asks I7 n7) (T.obj _ _ st7)
    refine thnF (rg.run _ s7 _ H7 x u _ I7' r7 (step x H7 y7)) fun _ s8 ⟨σ8, H8, I8, hw8, q8⟩ => ?_
    refine thnF (rt.run _ s8 σ8 H8 _ I8 q8) fun b s9 ⟨H9, I9, q9⟩ => ?_
    have next : ∀ {s' : Shared} {H' : Hp}, Inv (X.blk s3 H3 scope ce fp) ([] ++ pinsAt fp s7.heap) σ8 H' s' → Nx H' → ∃ m, m < n ∧ ∃ i H', Inv (X.blk s3 H3 scope ce fp) [] (wipe σ (own.map (·.2))) H' s' ∧ tn i s'.heap ∧ (∀ b ∈ fp, H' b = none) ∧ W i m H' := fun {s' H'} I' nx => by
      (obtain ⟨m', hm, w'⟩ := hNx H' nx)
      have held : ∀ b ∈ fp, ∀ o, s7.heap.get? b = some o → s'.heap.get? b = some o ∧ H' b = none := fun b hb o e =>
        have z := I'.pin (b, o) (List.mem_append_right _ (List.mem_append_right _ (mem_pinsAt hb e)))
        ⟨z.1, z.2.1⟩
      refine ⟨m', hm, i + 1, H', (I'.unpinned (pins := [])).weak (by rw [← hw8, wipe_length]) (fun j v e => (wipe_some (by rw [hw8]; exact e)).1), T.keep _ _ _ st7 fun b hb o e => (held b hb o e).1, fun b hb => ?_, w'⟩
      (obtain ⟨o, e, _⟩ := T.obj _ _ st7 b hb)
      exact (held b hb o e).2
    cases b with
    | false =>
      (simp only [Bool.false_eq_true, if_false] at q9 ⊢)
      exact next I9 q9
    | true =>
      simp only [if_true] at q9 ⊢
      refine thnF (re.run _ s9 σ8 H9 _ I9 q9) fun z s10 ⟨yv, H10, I10, r10, k, l, ey, hD10, hz10, nx⟩ => ?_
      subst ey
      obtain ⟨t, rfl⟩ : ∃ t, z = Value.str k t := r10
      exact txO_add (X := X.blk s3 H3 scope ce fp) I10 hD10 hz10 fun s11 I11 => next I11 nx
end
end KB
namespace KB
open PySem L2 PySem.Spec PyProof.Rows
theorem ss_list {P : Program} {w : World} {K : PySem.W.Frag} {a : Addr} {xs : List V} {g : TG} {tt : TT} {te : TE} {vs : List Nat} {σ : L2.St} {H1 : Hp} {D : Addr} {Qd : Hp → Prop} (Z : Nat → Hp → Prop) (z0 : Z 0 (upd H1 D (TxO P w D []))) (zl : ∀ i H, i ≤ xs.length → Z i H → SqL K H a xs)
    (zs : ∀ i x H, xs[i]? = some x → Z i H → g x (wipe σ vs) H fun σ2 H2 => wipe σ2 vs = wipe σ vs ∧ tt σ2 H2 fun b H3 =>
      if b = true then te σ2 H3 fun y H4 => ∃ (k : Str) (l : List Str), y = .str k ∧ H4 D = some (TxO P w D l) ∧ l.length < 50 ∧ Z (i + 1) (upd H4 D (TxO P w D (if k ∈ l then l else k :: l))) else Z (i + 1) H3) (zd : ∀ H, Z xs.length H → Qd H) :
    ∃ W : Nat → Nat → Hp → Prop, (∃ m, W 0 m (upd H1 D (TxO P w D []))) ∧ ∀ i m H, W i m H → ((Itl K a).stop i H ∧ Qd H) ∨ ((Itl K a).go i H ∧ ∃ Nx : Hp → Prop, (∀ H', Nx H' → ∃ m', m' < m ∧ W (i + 1) m' H') ∧ ∀ x H', (Itl K a).yld i H x H' → g x (wipe σ vs) H' fun σ2 H2 => wipe σ2 vs = wipe σ vs ∧ tt σ2 H2 fun b H3 =>
        if b = true then te σ2 H3 fun y H4 => ∃ (k : Str) (l : List Str), y = .str k ∧ H4 D = some (TxO P w D l) ∧ l.length < 50 ∧ Nx (upd H4 D (TxO P w D (if k ∈ l then l else k :: l))) else Nx H3) := by
  refine ⟨fun i m H => m + i = xs.length ∧ Z i H, ⟨xs.length, rfl, z0⟩, fun i m H ⟨em, z⟩ => ?_⟩
  have sq := zl i H (by omega) z
  cases m with
  | zero =>
    have ei : i = xs.length := by omega
    subst ei
    exact .inl ⟨⟨xs, sq, Nat.le_refl _⟩, zd H z⟩
  | succ m =>
    have lt : i < xs.length := by omega
    refine .inr ⟨⟨xs, xs[i], sq, by simp [lt]⟩, Z (i + 1), fun H' z' => ⟨m, Nat.lt_succ_self m, by omega, z'⟩, fun x H' y => ?_⟩
    obtain ⟨rfl, y⟩ := y
    exact zs i x _ (y xs sq) z
theorem perm_sub : ∀ {l a : List Str}, l.Nodup → (∀ k ∈ l, k ∈ a) → a.length ≤ l.length → l.Perm a
  | [], a, _, _, h => by rw [List.length_eq_zero_iff.mp (Nat.le_zero.mp h)]
  | x :: l, a, nd, sub, h => by
    (obtain ⟨n1, n2⟩ := List.nodup_cons.mp nd)
    have hx := sub x List.mem_cons_self
    have p := List.perm_cons_erase hx
    have le := List.length_erase_of_mem hx
    rw [List.length_cons] at h
    exact ((perm_sub n2 (fun k hk => (List.mem_erase_of_ne fun e => n1 (by rw [← e]; exact hk)).mpr (sub k (List.mem_cons_of_mem _ hk))) (by omega)).cons x).trans p.symm
section
variable {X : Cx}
def rSortedTx (P : Program) (w : World) : List V → Hp → VK → Prop := fun vs H Q => ∃ (a : Addr) (l : List Str), vs = [.ref a] ∧ H a = some (TxO P w a l) ∧
  ∀ (ss : List Str) (p : Addr), sortedS ss = true → ss.Nodup → (∀ k, k ∈ ss ↔ k ∈ l) → H p = none → Q (.ref p) (upd H p (.lst (ss.map V.str)))
theorem cr_sortedTx (hc : X.calm = true) : CallR X (.builtin "sorted") (rSortedTx X.prog X.w) := by
  (intro pins s σ H vs us Q I r h)
  obtain ⟨a, l, rfl, ha, q⟩ := h
  have R : TxSet X.prog X.w s.heap a l := (I.hok a _ ha).1
  rw [Vals.ref1 r]
  have nd : l.Nodup := by
    obtain ⟨D, _, _, nd, _⟩ := R
    exact nd
  have lz : l.length ≤ 50 := by
    obtain ⟨D, _, _, _, lz, _⟩ := R
    exact lz
  refine txset_sorted R (I.ok.hd hc) fun s' p out c ss k1 g1 o1 hp hob r1 r2 r3 r4 => ?_
  have pm := perm_sub nd (fun k hk => (r3 k).mpr hk) (by omega)
  have ln : (ss.map V.str).length ≤ sizeLine := by rw [List.length_map, r4, sizeLine_eq]; omega
  have np : H p = none := I.hok.fresh hp
  have same : ({ s with heap := s'.heap, gens := s'.gens, drawn := s'.drawn, toks := s'.toks } : Shared) = s' := by
    cases s'
    cases s
    cases o1
    rfl
  have I' : Inv X pins σ (upd H p (.lst (ss.map V.str))) s' := by
    rw [← same]
    exact I.call (ch := []) (Un.laid k1 hp np) (I.hok.laid k1 hp ⟨ln, out.toList, c, vals_of_strs r1, hob⟩) (by rw [g1]; exact I.bare) (fun _ z => nomatch z)
  exact ⟨.ref p, _, I', rfl, q ss p r2 (pm.nodup_iff.mp nd) r3 np⟩
end
def abcs (ss : List Str) : List Str := abc.filter fun k => decide (k ∈ ss)
theorem srt2 : ∀ x ∈ abc, ∀ y ∈ abc, sortedS [x, y] = true → x ≠ y → [x, y] = abcs [x, y] := by decide +kernel
theorem srt3 : ∀ x ∈ abc, ∀ y ∈ abc, ∀ z ∈ abc, sortedS [x, y, z] = true → x ≠ y → x ≠ z → y ≠ z → [x, y, z] = abcs [x, y, z] := by decide +kernel
theorem no4 : ∀ x ∈ abc, ∀ y ∈ abc, ∀ z ∈ abc, ∀ u ∈ abc, x = y ∨ x = z ∨ x = u ∨ y = z ∨ y = u ∨ z = u := by decide +kernel
theorem srt1 : ∀ x ∈ abc, [x] = abcs [x] := by decide +kernel
theorem sorted_abc {ss : List Str} (h : ∀ k ∈ ss, k ∈ abc) (nd : ss.Nodup) (so : sortedS ss = true) : ss = abcs ss := by
  match ss, h, nd, so with
  | [], _, _, _ => decide +kernel
  | [x], h, _, _ => exact srt1 x (h x (by simp))
  | [x, y], h, nd, so =>
    simp only [List.nodup_cons, List.mem_cons, not_or] at nd
    exact srt2 x (h x (by simp)) y (h y (by simp)) so nd.1.1
  | [x, y, z], h, nd, so =>
    simp only [List.nodup_cons, List.mem_cons, not_or] at nd
    exact srt3 x (h x (by simp)) y (h y (by simp)) z (h z (by simp)) so nd.1.1 nd.1.2.1 nd.2.1.1
  | x :: y :: z :: u :: r, h, nd, _ =>
    simp only [List.nodup_cons, List.mem_cons, not_or] at nd
    rcases no4 x (h x (by simp)) y (h y (by simp)) z (h z (by simp)) u (h u (by simp)) with e | e | e | e | e | e
    · exact absurd e nd.1.1
    · exact absurd e nd.1.2.1
    · exact absurd e nd.1.2.2.1
    · exact absurd e nd.2.1.1
    · exact absurd e nd.2.1.2.1
    · exact absurd e nd.2.2.1.1
end KB
namespace KZ
open PySem
open PySem.Sem (wp)
theorem adn {a b : Nat} (h : a ≠ b) : @Ne Addr a b := h
abbrev e1 (h : Heap) (l : Addr) : Heap := h.push { cls := .type "tuple_iterator", data := .fields #[.ref l, .int 0 0] }
abbrev e2 (h : Heap) (l : Addr) : Heap := (e1 h l).push { cls := .type "enumerate", data := .fields #[.none, .bool false, .ref h.objs.size, rawInt 0, .none, .none] }
theorem meetsE (l : Addr) (xs : Array Value) :
    Meets (Builtin.«enumerate.__new__» ⟨[.type "enumerate", .ref l], []⟩) (fun _ R s => s.heap.IsTuple l xs ∧ R (.ok (.ret (.ref (e1 s.heap l).objs.size))) { s with heap := e2 s.heap l }) :=
  .of_wp fun prog w A R s hin => by
    (obtain ⟨hp, g, d, tk, os⟩ := s)
    obtain ⟨hl1, h⟩ := hin
    have hsub := sub_enumerate
    have a1 : Heap.IsTuple (Shared.heap ⟨hp, g, d, tk, os⟩) l xs := hl1
    wp_walk using wpAny_pyIter_tuple a1
    (refine wpAny_stack_any fun st => wpAny_pure ?_)
    split
    · rename_i c _ _ _ _ _
      cases (c == Value.type "enumerate") <;> (wp_walk using wpAny_pyIter_tuple a1; exact ⟨_, rfl, h⟩)
    · wp_walk using wpAny_pyIter_tuple a1
      exact ⟨_, rfl, h⟩
section
variable {A : Around} {E : Value → Shared → Prop} {s : Shared} {prog : Program} {w : World}
theorem callE {l : Addr} {xs : Array Value} {Q : Value → Shared → Prop} (hL : s.heap.IsTuple l xs)
    (h : ∀ (n : Nat) h', n = s.heap.objs.size → IsEnum h' (n + 1) n 0 .none → h'.IsTupleIter n l 0 → (∀ c o, s.heap.get? c = some o → h'.get? c = some o) → Q (.ref (n + 1)) { s with heap := h' }) : wpAny (model prog w) A (call (.type "enumerate") [.ref l]) Q E s := by
  refine callType_new F.called_enumerate (by decide) (F.typeCall_enumerate_1 _) (F.newCall_enumerate_1 _) (fun obj => F.args_object_init_2 obj _) F.entry_enumerate_new (meetsE l xs) ⟨hL, ?_⟩
  have z1 : (e1 s.heap l).objs.size = s.heap.objs.size + 1 := Heap.size_push ..
  have q2 : (e2 s.heap l).get? (e1 s.heap l).objs.size = some _ := Heap.get?_push_size _ rfl
  have q1 : (e2 s.heap l).get? s.heap.objs.size = some _ := Heap.get?_push_of_some _ (Heap.get?_push_size _ rfl)
  show _ ∧ _
  rw [z1] at q2
  rw [z1]
  exact ⟨⟨_, q2, rfl⟩, h _ _ rfl q2 ⟨_, q1, rfl, rfl⟩ fun c o x => Heap.get?_push_of_some _ (Heap.get?_push_of_some _ x)⟩
end
end KZ
namespace KZ
open PySem L2 PySem.Spec PyProof.Rows
def IeT (K : PySem.W.Frag) (a : Addr) : It :=
  ⟨fun i H => ∃ (xs : List V) (x : V), SqT K H a xs ∧ xs[i]? = some x, fun i H v H' => ∃ T x, v = .ref T ∧ H T = none ∧ H' = upd H T (.tup [.int (i : Nat), x]) ∧ ∀ xs, SqT K H a xs → xs[i]? = some x, fun i H => ∃ xs : List V, SqT K H a xs ∧ xs.length ≤ i⟩
theorem turnE {P : Program} {w : World} {K : PySem.W.Frag} {elts : List Expr} {kk : Nat} {tpos : Pos} {a n : Nat} (na : a < n) :
    Turn P w K (.Tuple elts kk tpos) (IeT K a) [n + 1, n] (n + 1) (fun i h => (∃ old, IsEnum h (n + 1) n ((i : Nat) : Int) old) ∧ h.IsTupleIter n a i) where
  mem := by simp
  obj := fun i h st b hb => by
    obtain ⟨⟨old, he⟩, ⟨o, ho, hc, hd⟩⟩ := st
    (rcases List.mem_cons.mp hb with z | z)
    · (rw [z]; exact ⟨_, he, fun v q => nomatch q⟩)
    · rw [List.mem_singleton.mp z]; exact ⟨o, ho, fun v q => by rw [hd] at q; cases q⟩
  keep := fun i h h' st k => let ⟨⟨old, he⟩, hi⟩ := st; ⟨⟨old, k (n + 1) (by simp) _ he⟩, hi.at fun o q => k n (by simp) o q⟩
  item := by
    (intro X hP hw hK hc i pins s σ H E I hf st hg)
    subst hP hw hK
    obtain ⟨⟨old, he⟩, hit⟩ := st
    obtain ⟨xs, x, hq, hx⟩ := hg
    (obtain ⟨its, rv, p, hz⟩ := I.tuple hq)
    (obtain ⟨u, hu, ru⟩ := rv.get hx)
    have hel : n + 1 < s.heap.objs.size := Heap.lt_size he
    have hil : n < s.heap.objs.size := by omega
    have iu : its.toArray[i]? = some u := by simpa using hu
    have il : i < its.toArray.size := (Array.getElem?_eq_some_iff.mp iu).1
    have nn : @Ne Addr (n + 1) n := adn (by omega)
    have an : @Ne Addr a n := adn (by omega)
    have nin : (n + 1 : Addr) ∉ ([n, a] : List Addr) := fun z => by
      (rcases (List.mem_cons.mp z) with z | z)
      · exact nn z
      · exact (adn (by omega : n + 1 ≠ a)) (List.mem_singleton.mp z)
    have DR := Draws.tuple (prog := X.prog) (w := X.w) (A := X.A.in1) (show X.A.in1.handled = none from I.ok.hd hc) n a an its.toArray
    refine wpAny_pyNext_enum_itemD DR he (And.intro hit p) il nn nin fun y h' tk hy ho hs' hT hsz hk => ?_
    rw [iu] at hy
    obtain rfl := Option.some.inj hy
    refine ⟨_, rfl, wpAny_letOwnedTupleGo_enum (s := { s with heap := h', toks := tk + 1 }) ho fun h2nd he' sb => ?_⟩
    have hT2 : h2nd.get? s.heap.objs.size = some { cls := .type "tuple", data := .seq #[.int i tk, u] } := (sb.2 _ (Nat.ne_of_gt hel)).trans hT
    have new : ObjOk X.prog X.w (upd H s.heap.objs.size (.tup [.int (i : Nat), x])) h2nd s.heap.objs.size (.tup [.int (i : Nat), x]) :=
      ⟨by show 2 ≤ sizeLine; decide, [.int i tk, u], .cons ⟨_, rfl⟩ (.cons ru .nil), ⟨_, hT2, rfl, _, rfl⟩⟩
    have out : ∀ b, b ∉ ([n + 1, n] : List Addr) → b ≠ n + 1 ∧ b ≠ n := fun b hb => ⟨fun z => hb (by simp [z]), fun z => hb (by simp [z])⟩
    have I1 : Inv X pins σ (upd H s.heap.objs.size (.tup [.int (i : Nat), x])) { s with heap := h2nd, toks := tk + 1 } :=
      I.turnedNew (ch := [n + 1, n]) (fun b ob hb q => (sb.2 b (out b hb).1).trans (hk b ob (out b hb).1 (out b hb).2 q)) hf (Nat.le_refl _) new
    refine ⟨.ref s.heap.objs.size, _, I1, rfl, ⟨_, x, rfl, I.hok.fresh (Nat.le_refl _), rfl, fun ys hy => by rw [I.tuple_inj hy hq]; exact hx⟩, ⟨⟨u, ?_⟩, hs'.1.at fun o q => (sb.2 n (adn (by omega))).trans q⟩, fun b hb => ?_⟩
    · have c1 : ((i + 1 : Nat) : Int) = (i : Int) + 1 := by omega
      rw [c1]; exact he'
    · have lt : b < s.heap.objs.size := by
        (rcases List.mem_cons.mp hb with z | z)
        · rw [z]; exact hel
        · rw [List.mem_singleton.mp z]; exact hil
      rw [upd_ne (Nat.ne_of_lt lt)]
      exact (hf b hb).1
  done := by
    (intro X hP hw hK hc i pins s σ H E I hf st hg)
    subst hP hw hK
    obtain ⟨⟨old, he⟩, hit⟩ := st
    obtain ⟨xs, hq, hx⟩ := hg
    (obtain ⟨its, rv, p, hz⟩ := I.tuple hq)
    obtain ⟨f0, f1, f2, f3, f4, f5⟩ := hf n (by simp)
    have hl := rv.length
    have hn : its.toArray[i]? = none := by simp; omega
    have hT : s.TypeIs (.ref (n + 1)) "enumerate" := ⟨_, he, rfl⟩
    unfold pyNext
    refine wpAny_bind (wpAny_attempt (wpAny_callSpecial?_slot (name := Str.ofString "__next__") hT F.slot_enumerate_next (wpAny_call_entry F.slot_enumerate_next hT F.entry_enumerate_next ?_ (F.args_enumerate_next_1 _))))
    show wpAny _ _ (field (.ref (n + 1)) 2 >>= _) _ _ _
    refine wpAny_bind (wpAny_field he rfl (x := .ref n) rfl ?_)
    refine wpAny_bind (wpAny_nextOf_tuple_end (I.ok.hd hc) hit p hn fun h' x hb hx' => ?_)
    obtain ⟨o, ho, hcl⟩ := hx'
    refine wpAny_bind (wpAny_isInstance (T := "StopIteration") (b := true) ⟨o, ho, hcl⟩ isSubtype_stop ?_)
    exact wpAny_pure ⟨rfl, I.turned (t' := s.toks) (fun b o hbn q => hb b o hbn q) f0 f1 f3 f4 f5⟩
  self := fun A i s Q E st hq => let ⟨⟨_, he⟩, _⟩ := st; wpAny_pyIter_enum he hq
def iEnumT (K : PySem.W.Frag) (ta : TA) : TI := fun σ H R => ta σ H fun vs H1 => ∃ a xs, vs = [.ref a] ∧ SqT K H1 a xs ∧ R (IeT K a) H1
theorem pi_enumT {X : Cx} {e : Expr} {ta : TA} {p pos tpos : Pos} {elts : List Expr} {kk : Nat} (hg : Gl X "enumerate") (hm : X.mg "enumerate" = none) (ha : PA X [e] ta) (hs : starEach [e] X.env = [(false, eval e X.env)] := by rfl) :
    PI X (.Tuple elts kk tpos) (.Call (.Name "enumerate" p) [e] [] pos) (iEnumT X.K ta) := by
  (refine ⟨fun pins s σ H R I h => ?_⟩)
  (refine Call_ (ld_blt I hg hm boot_enumerate (PyProof.Rows.callWith_type1 (thn (ha.run pos pins s σ H _ I h) fun us s1 ⟨vs, H1, I1, r1, q1⟩ => ?_) hs rfl)))
  (obtain ⟨a, xs, ex, hq, q⟩ := q1)
  subst ex
  cases r1 with
  | cons r rr =>
    cases rr
    cases r
    obtain ⟨its, rv, p', hz⟩ := I1.tuple hq
    obtain ⟨o1, ho1, _⟩ := id p'
    refine callE p' fun n h' en he hit hk => wpAny_pyIter_enum he ?_
    (have I2 : Inv X pins σ H1 { s1 with heap := h' } := I1.kept (t' := s1.toks) hk)
    refine ⟨n + 1, [n + 1, n], _, _, H1, rfl, I2, turnE (n := n) (by rw [en]; exact Heap.lt_size ho1), ⟨⟨.none, he⟩, hit⟩, fun b hb => ?_, q⟩
    have hle : b ≥ s1.heap.objs.size := by
      (rcases List.mem_cons.mp hb with z | z)
      · rw [z, en]; exact Nat.le_succ _
      · rw [List.mem_singleton.mp z, en]; exact Nat.le_refl _
    (exact I1.fpOk hle (I1.hok.fresh hle))
theorem for_enumT {K : PySem.W.Frag} {a : Addr} {xs : List V} {g : TG} {tb : TS} {D : Ends} {σ : L2.St} {H : Hp} (Pv : Nat → L2.St → Hp → Prop) (h0 : Pv 0 σ H)
    (hq : ∀ i σ H, Pv i σ H → SqT K H a xs)
    (hs : ∀ (i : Nat) (x : V) (T : Addr) (σ : L2.St) (H : Hp), xs[i]? = some x → Pv i σ H → H T = none → g (.ref T) σ (upd H T (.tup [.int (i : Nat), x])) fun σ2 H2 => tb { D with nx := Pv (i + 1), ct := Pv (i + 1), bk := D.nx } σ2 H2) (hd : ∀ σ H, Pv xs.length σ H → D.nx σ H) : ∃ W : Nat → Nat → L2.St → Hp → Prop, (∃ m, W 0 m σ H) ∧ ∀ i m σ H, W i m σ H →
      ((IeT K a).stop i H ∧ D.nx σ H) ∨ ((IeT K a).go i H ∧ ∃ N : L2.St → Hp → Prop, (∀ σ' H', N σ' H' → ∃ m', m' < m ∧ W (i + 1) m' σ' H') ∧ ∀ v H', (IeT K a).yld i H v H' → g v σ H' fun σ2 H2 => tb { D with nx := N, ct := N, bk := D.nx } σ2 H2) := by
  (refine ⟨fun i m σ H => m = xs.length - i ∧ i ≤ xs.length ∧ Pv i σ H, ⟨xs.length, rfl, Nat.zero_le _, h0⟩, ?_⟩)
  rintro i m σ H ⟨rfl, hi, p⟩
  have qx := hq i σ H p
  by_cases hlt : i < xs.length
  · (have hx : xs[i]? = some xs[i] := List.getElem?_eq_getElem hlt)
    refine .inr ⟨⟨xs, _, qx, hx⟩, Pv (i + 1), fun σ' H' p' => ⟨xs.length - (i + 1), by omega, rfl, hlt, p'⟩, ?_⟩
    rintro v H' ⟨T, x, rfl, hT, rfl, ex⟩
    exact hs i x T σ H (ex xs qx) p hT
  · (have e : i = xs.length := by omega)
    subst e
    exact .inl ⟨⟨xs, qx, Nat.le_refl _⟩, hd σ H p⟩
end KZ
namespace KB
open PySem L2 PySem.Spec PyProof.Rows
def Kd.vars (k : Kd) : List Str := abc.filter fun x => decide (x ∈ k.wl)
def spVo : Sp := fun vs H Q _ => ∃ (F : Addr → Prop) (v : V) (k : Kd), vs = [v] ∧ Dt F H v k.d ∧ k.okv = true ∧ k.dep ≤ 100 ∧ sz k.d ≤ 4000000 ∧ ∀ (a : Addr) (H' : Hp), Same H H' → H' a = some (.tup (k.vars.map V.str)) → Q (.ref a) H'
theorem lvs_okv : ∀ (k : Kd) (l : Int), k.okv = true → ∀ p ∈ k.lvs l, p.1.okv = true
  | .num, l, h => fun p hp => by rw [List.mem_singleton.mp hp]; exact h
  | .unit, l, h => fun p hp => by rw [List.mem_singleton.mp hp]; exact h
  | .var x, l, h => fun p hp => by rw [List.mem_singleton.mp hp]; exact h
  | .lst a, l, h => fun p hp => by
    (rcases List.mem_cons.mp hp with e | e)
    · rw [e]; exact h
    · exact lvs_okv a _ h p e
  | .pair a b, l, h => fun p hp => by
    obtain ⟨o1, o2⟩ := Bool.and_eq_true_iff.mp (show (a.okv && b.okv) = true from h)
    (rcases List.mem_cons.mp hp with e | e)
    · rw [e]; exact h
    · exact (List.mem_append.mp e).elim (lvs_okv a _ o1 p) (lvs_okv b _ o2 p)
  | .eith a b, l, h => fun p hp => by
    obtain ⟨o1, o2⟩ := Bool.and_eq_true_iff.mp (show (a.okv && b.okv) = true from h)
    (rcases List.mem_cons.mp hp with e | e)
    · rw [e]; exact h
    · exact (List.mem_append.mp e).elim (lvs_okv a _ o1 p) (lvs_okv b _ o2 p)
  | .fn a b, l, h => fun p hp => by
    obtain ⟨o1, o2⟩ := Bool.and_eq_true_iff.mp (show (a.okv && b.okv) = true from h)
    (rcases List.mem_cons.mp hp with e | e)
    · rw [e]; exact h
    · exact (List.mem_append.mp e).elim (lvs_okv a _ o1 p) (lvs_okv b _ o2 p)
theorem abc_not {x y : Str} (h : x ∈ abc) (d : y ∉ abc) : x ≠ y := fun e => d (by rw [← e]; exact h)
theorem wl_lvs {x : Str} (hx : x ∈ abc) : ∀ (k : Kd) (l : Int), x ∈ k.wl ↔ ∃ p ∈ k.lvs l, p.1 = .var x
  | .num, l => by
    have := abc_not hx (show ("num" : Str) ∉ abc by decide)
    simp [Kd.wl, Kd.lvs, this]
  | .unit, l => by
    have := abc_not hx (show ("unit" : Str) ∉ abc by decide)
    simp [Kd.wl, Kd.lvs, this]
  | .var y, l => by
    simp only [Kd.wl, Kd.lvs, List.mem_singleton]
    constructor
    · rintro rfl
      exact ⟨_, rfl, rfl⟩
    · rintro ⟨p, rfl, e⟩
      exact (Kd.var.inj e).symm
  | .lst a, l => by
    have := abc_not hx (show ("list" : Str) ∉ abc by decide)
    have ia := wl_lvs hx a (l + 1)
    simp only [Kd.wl, Kd.lvs, List.mem_cons, this, false_or, ia]
    constructor
    · rintro ⟨p, hp, e⟩
      exact ⟨p, .inr hp, e⟩
    · rintro ⟨p, rfl | hp, e⟩
      · cases e
      · exact ⟨p, hp, e⟩
  | .pair a b, l => two hx (show ("pair" : Str) ∉ abc by decide) (wl_lvs hx a (l + 1)) (wl_lvs hx b (l + 1)) (fun e => by cases e)
  | .eith a b, l => two hx (show ("either" : Str) ∉ abc by decide) (wl_lvs hx a (l + 1)) (wl_lvs hx b (l + 1)) (fun e => by cases e)
  | .fn a b, l => two hx (show ("fun" : Str) ∉ abc by decide) (wl_lvs hx a (l + 1)) (wl_lvs hx b (l + 1)) (fun e => by cases e)
where
  two {x w : Str} {a b c : Kd} {l : Int} (hx : x ∈ abc) (hw : w ∉ abc) (ia : x ∈ a.wl ↔ ∃ p ∈ a.lvs (l + 1), p.1 = .var x) (ib : x ∈ b.wl ↔ ∃ p ∈ b.lvs (l + 1), p.1 = .var x) (hc : c ≠ .var x) :
      x ∈ w :: (a.wl ++ b.wl) ↔ ∃ p ∈ (c, l) :: (a.lvs (l + 1) ++ b.lvs (l + 1)), p.1 = .var x := by
    have := abc_not hx hw
    simp only [List.mem_cons, List.mem_append, this, false_or, ia, ib]
    constructor
    · rintro (⟨p, hp, e⟩ | ⟨p, hp, e⟩)
      · exact ⟨p, .inr (.inl hp), e⟩
      · exact ⟨p, .inr (.inr hp), e⟩
    · rintro ⟨p, rfl | hp | hp, e⟩
      · exact absurd e hc
      · exact .inl ⟨p, hp, e⟩
      · exact .inr ⟨p, hp, e⟩
theorem few_abc {l : List Str} (h : ∀ k ∈ l, k ∈ abc) (nd : l.Nodup) : l.length ≤ 3 := by
  match l, h, nd with
  | [], _, _ => exact Nat.zero_le _
  | [_], _, _ => exact Nat.le_add_left _ _
  | [_, _], _, _ => exact Nat.le_add_left _ _
  | [_, _, _], _, _ => exact Nat.le_refl _
  | x :: y :: z :: u :: r, h, nd =>
    simp only [List.nodup_cons, List.mem_cons, not_or] at nd
    rcases no4 x (h x (by simp)) y (h y (by simp)) z (h z (by simp)) u (h u (by simp)) with e | e | e | e | e | e
    · exact absurd e nd.1.1
    · exact absurd e nd.1.2.1
    · exact absurd e nd.1.2.2.1
    · exact absurd e nd.2.1.1
    · exact absurd e nd.2.1.2.1
    · exact absurd e nd.2.2.1.1
theorem nd_add {k : Str} {l : List Str} (nd : l.Nodup) : (if k ∈ l then l else k :: l).Nodup := by
  by_cases h : k ∈ l
  · rw [if_pos h]; exact nd
  · rw [if_neg h]; exact List.nodup_cons.mpr ⟨h, nd⟩
theorem mem_add {k y : Str} {l : List Str} : y ∈ (if k ∈ l then l else k :: l) ↔ y = k ∨ y ∈ l := by
  by_cases h : k ∈ l
  · rw [if_pos h]
    exact ⟨.inr, fun z => z.elim (fun e => by rw [e]; exact h) id⟩
  · rw [if_neg h, List.mem_cons]
end KB
namespace KB
open PySem L2 PySem.Spec PyProof.Rows
def gf {α : Type} (us ws : List α) : List α := match us, ws with
  | [], [a, b] => [a, b]
  | _, _ => []
theorem gf_rel {vs : List V} {us : List Value} {zs : List V} {ws : List Value} (r : Vals vs us) (q : Vals zs ws) : Vals (gf vs zs) (gf us ws) := by
  cases r with
  | cons _ _ => exact .nil
  | nil =>
    cases q with
    | nil => exact .nil
    | cons a q => cases q with
      | nil => exact .nil
      | cons b q => cases q with
        | nil => exact .cons a (.cons b .nil)
        | cons c q => exact .nil
def spFl : Sp := fun vs H Q _ => ∃ (F : Addr → Prop) (kv fv : V) (k : Kd) (fl : List (Str × Kd)), vs = [kv, fv] ∧ Dt F H kv k.d ∧ Dt F H fv (fD fl) ∧ Kg 100 30000 k ∧ Fg fl ∧ ∀ (v : V) (H' : Hp), Same H H' → Dt (Ot []) H' v (k.put fl).d → Q v H'
theorem dta_strs {F : Addr → Prop} {H : Hp} : ∀ ws : List Str, DtA F H (ws.map V.str) (ws.map PyData.str)
  | [] => .nil
  | x :: ws => .cons (.str x) (dta_strs ws)
theorem fg_nil : Fg [] := ⟨List.nil_sublist _, fun p h => nomatch h⟩
theorem put_nil : ∀ k : Kd, k.put [] = k
  | .num => rfl
  | .unit => rfl
  | .var _ => rfl
  | .lst a => by rw [Kd.put, put_nil a]
  | .pair a b => by rw [Kd.put, put_nil a, put_nil b]
  | .eith a b => by rw [Kd.put, put_nil a, put_nil b]
  | .fn a b => by rw [Kd.put, put_nil a, put_nil b]
theorem fg_len {fl : List (Str × Kd)} (h : Fg fl) : fl.length ≤ 3 := by
  have := h.sub.length_le
  rw [List.length_map] at this
  exact this
theorem fg_ok {fl : List (Str × Kd)} (h : Fg fl) : ∀ p ∈ fl, p.2.okv = true ∧ p.2.dep ≤ 3 := fun p hp => ⟨(h.kg p hp).1.ov, (h.kg p hp).1.dp⟩
theorem put_kg {fl : List (Str × Kd)} (h : Fg fl) : ∀ k : Kd, k.okv = true → (k.put fl).okv = true ∧ (k.put fl).dep ≤ k.dep + 2 ∧ (k.put fl).kz ≤ 8 * k.kz
  | .num, _ => ⟨rfl, by show 1 ≤ 1 + 2; decide, by show 1 ≤ 8 * 1; decide⟩
  | .unit, _ => ⟨rfl, by show 1 ≤ 1 + 2; decide, by show 1 ≤ 8 * 1; decide⟩
  | .var x, o => by
    have e : (Kd.var x).put fl = (fget fl x).headD (.var x) := rfl
    cases eg : fget fl x with
    | nil => rw [e, eg]; exact ⟨o, by show 1 ≤ 1 + 2; decide, by show 1 ≤ 8 * 1; decide⟩
    | cons k1 ks =>
      obtain ⟨p, hp, rfl⟩ := fget_mem (x := x) (k := k1) (by rw [eg]; exact List.mem_cons_self)
      have := (h.kg p hp).1
      rw [e, eg]
      exact ⟨this.ov, by have := this.dp; show p.2.dep ≤ 1 + 2; omega, by have := this.kz; show p.2.kz ≤ 8 * 1; omega⟩
  | .lst a, o => by
    obtain ⟨h1, h2, h3⟩ := put_kg h a o
    exact ⟨h1, by show (a.put fl).dep + 1 ≤ a.dep + 1 + 2; omega, by show (a.put fl).kz + 1 ≤ 8 * (a.kz + 1); omega⟩
  | .pair a b, o => two (put_kg h a (Bool.and_eq_true_iff.mp o).1) (put_kg h b (Bool.and_eq_true_iff.mp o).2)
  | .eith a b, o => two (put_kg h a (Bool.and_eq_true_iff.mp o).1) (put_kg h b (Bool.and_eq_true_iff.mp o).2)
  | .fn a b, o => two (put_kg h a (Bool.and_eq_true_iff.mp o).1) (put_kg h b (Bool.and_eq_true_iff.mp o).2)
where
  two {fl : List (Str × Kd)} {a b : Kd} (x : (a.put fl).okv = true ∧ (a.put fl).dep ≤ a.dep + 2 ∧ (a.put fl).kz ≤ 8 * a.kz) (y : (b.put fl).okv = true ∧ (b.put fl).dep ≤ b.dep + 2 ∧ (b.put fl).kz ≤ 8 * b.kz) :
      ((a.put fl).okv && (b.put fl).okv) = true ∧ max (a.put fl).dep (b.put fl).dep + 1 ≤ max a.dep b.dep + 1 + 2 ∧ (a.put fl).kz + (b.put fl).kz + 1 ≤ 8 * (a.kz + b.kz + 1) := by
    obtain ⟨x1, x2, x3⟩ := x
    obtain ⟨y1, y2, y3⟩ := y
    exact ⟨by rw [x1, y1]; rfl, by omega, by omega⟩
theorem int_all : ((List.range 101).all fun n => sdB 1 10 (.int n)) = true := by decide +kernel
theorem int_sd {n : Nat} (h : n ≤ 100) : Sd 1 10 (.int n) := sdB_ok (List.all_eq_true.mp int_all n (List.mem_range.mpr (by omega)))
theorem abc_sd : SdA 0 100 (abc.map PyData.str) := (sdA_of (n := 0) (L := 20) fun d hd => by
  obtain ⟨x, hx, rfl⟩ := List.mem_map.mp hd
  (rcases List.mem_cons.mp hx with e | hx)
  · rw [e]; exact sdB_ok (by decide +kernel)
  · rcases List.mem_cons.mp hx with e | hx
    · rw [e]; exact sdB_ok (by decide +kernel)
    · rw [List.mem_singleton.mp hx]; exact sdB_ok (by decide +kernel)).mono (Nat.le_refl _) (by decide)
theorem told_sd {k : Kd} (h : k.dep ≤ 100) : Sd 3 200 (.list [.int k.dep, .tuple (k.vars.map .str)]) :=
  (SdA.cons ((int_sd h).mono (by decide) (Nat.le_refl _)) (SdA.cons ((abc_sd.sub ((List.filter_sublist (l := abc)).map _)).tup.mono (by decide) (Nat.le_refl _)) (SdA.nil (n := 2) (L := 0)))).lst.mono (by decide) (by decide)
theorem kinds_sd {ks : List Kd} (h : ∀ k ∈ ks, Kg 110 30000 k) (n : ks.length ≤ 3) : (PyData.list (ks.map Kd.d)).showable = true ∧ (PyData.list (ks.map Kd.d)).depth ≤ 180 ∧ sz (.list (ks.map Kd.d)) ≤ 10000000 := by
  have a := (sdA_of (n := 110) (L := 25 * 30000) (ds := ks.map Kd.d) fun d hd => by
    obtain ⟨k, hk, rfl⟩ := List.mem_map.mp hd
    exact (h k hk).sd).lst
  rw [List.length_map] at a
  refine ⟨a.sh, Nat.le_trans a.dp (by decide), Nat.le_trans a.ln ?_⟩
  have := Nat.mul_le_mul_left (25 * 30000 + 2) n
  omega
end KB
namespace KB
open PySem L2 PySem.Spec PyProof.Rows
theorem isDk_d {k : Kd} (h : k.okv = true) (d : k.dep ≤ 100) (n : k.noFn = true) : isDk k.d = true := by rw [isDk, isK_d h d, nf_d, n]; rfl
theorem isCk_d {k : Kd} (h : k.okv = true) (d : k.dep ≤ 100) (c : k.closed = true) : isCk k.d = true := by rw [isCk, isK_d h d, cl_d, c]; rfl
def spFv : Sp := fun vs H Q _ => ∃ (F : Addr → Prop) (v : V) (x : Str) (k : Kd), vs = [v] ∧ Dt F H v (.tuple [.str x, k.d]) ∧ x ∈ abc ∧ k.okv = true ∧ k.dep ≤ 100 ∧ sz k.d ≤ 4000000 ∧ k.closed = true ∧ k.noFn = true ∧ ∀ H', Same H H' → Q (.bl true) H'
def spCf : Sp := fun vs H Q _ => ∃ (F : Addr → Prop) (v : V) (fl : List (Str × Kd)), vs = [v] ∧ Dt F H v (fD fl) ∧ Fg fl ∧ ∀ H', Same H H' → Q .non H'
inductive Mp (F : Addr → Prop) (H : Hp) : List (L2.Key × V) → List (Str × Kd) → Prop
  | nil : Mp F H [] []
  | cons {x : Str} {v : V} {k : Kd} {kvs : List (L2.Key × V)} {fl : List (Str × Kd)} (h : Dt F H v k.d) (r : Mp F H kvs fl) : Mp F H ((.inr x, v) :: kvs) ((x, k) :: fl)
theorem Mp.move {F G : Addr → Prop} {H H' : Hp} (k : ∀ a o, F a → H a = some o → G a ∧ H' a = some o) : ∀ {kvs : List (L2.Key × V)} {fl : List (Str × Kd)}, Mp F H kvs fl → Mp G H' kvs fl
  | _, _, .nil => .nil
  | _, _, .cons h r => .cons (h.move k) (r.move k)
theorem Mp.keys {F : Addr → Prop} {H : Hp} : ∀ {kvs : List (L2.Key × V)} {fl : List (Str × Kd)}, Mp F H kvs fl → kvs.map Prod.fst = fl.map fun p => .inr p.1
  | _, _, .nil => rfl
  | _, _, .cons h r => by rw [List.map_cons, List.map_cons, r.keys]
theorem Mp.snoc {F : Addr → Prop} {H : Hp} {x : Str} {v : V} {k : Kd} (h : Dt F H v k.d) : ∀ {kvs : List (L2.Key × V)} {fl : List (Str × Kd)}, Mp F H kvs fl → Mp F H (kvs ++ [(.inr x, v)]) (fl ++ [(x, k)])
  | _, _, .nil => .cons h .nil
  | _, _, .cons q r => .cons q (r.snoc h)
theorem Mp.look {F : Addr → Prop} {H : Hp} (y : Str) : ∀ {kvs : List (L2.Key × V)} {fl : List (Str × Kd)}, Mp F H kvs fl → (valV kvs (.inr y) = none ∧ fget fl y = []) ∨ ∃ v k ks, valV kvs (.inr y) = some v ∧ fget fl y = k :: ks ∧ Dt F H v k.d
  | _, _, .nil => .inl (And.intro rfl rfl)
  | _, _, .cons (x := x) (v := v) (k := k) (kvs := kvs) (fl := fl) h r => by
    by_cases e : x = y
    · subst e
      refine .inr ⟨v, k, fget fl x, ?_, ?_, h⟩
      · simp [valV]
      · unfold fget
        rw [List.filter_cons_of_pos (by simp), List.map_cons]
    · have e1 : valV ((.inr x, v) :: kvs) (.inr y) = valV kvs (.inr y) := by
        have : decide ((Sum.inr x : L2.Key) = .inr y) = false := decide_eq_false fun z => e (Sum.inr.inj z)
        simp only [valV, List.find?, this]
      have e2 : fget ((x, k) :: fl) y = fget fl y := by
        unfold fget
        rw [List.filter_cons_of_neg (by simpa using e)]
      rw [e1, e2]
      exact r.look y
def spPi (n : Nat) : Sp := fun vs H Q _ => ∃ (F : Addr → Prop) (kv : V) (a : Addr) (kvs : List (L2.Key × V)) (k : Kd) (fl : List (Str × Kd)), vs = [kv, .ref a] ∧ Dt F H kv k.d ∧ H a = some (.dK kvs) ∧ Mp F H kvs fl ∧ k.dep ≤ n ∧ ∀ (v : V) (H' : Hp), Same H H' → Dt (Ot []) H' v (k.put fl).d → Q v H'
def lastN (fl : List (Str × Kd)) (i : Nat) : Str := ((("" : Str) :: fl.map Prod.fst)[i]?).getD ""
theorem up_abc : ((("" : Str) :: abc).Pairwise fun a b => decide (a.cps.toList < b.cps.toList) = true) := by decide +kernel
theorem last_up {fl : List (Str × Kd)} (h : (fl.map Prod.fst).Sublist abc) {i : Nat} {p : Str × Kd} (e : fl[i]? = some p) : decide ((lastN fl i).cps.toList < p.1.cps.toList) = true := by
  have pw := up_abc.sublist (List.Sublist.cons₂ ("" : Str) h)
  obtain ⟨il, ie⟩ := List.getElem?_eq_some_iff.mp e
  have i1 : i < (("" : Str) :: fl.map Prod.fst).length := by simp; omega
  have i2 : i + 1 < (("" : Str) :: fl.map Prod.fst).length := by simp; omega
  have := List.pairwise_iff_getElem.mp pw i (i + 1) i1 i2 (by omega)
  have e1 : (("" : Str) :: fl.map Prod.fst)[i + 1] = p.1 := by
    rw [List.getElem_cons_succ, List.getElem_map, ie]
  have e2 : lastN fl i = (("" : Str) :: fl.map Prod.fst)[i] := by
    unfold lastN
    rw [List.getElem?_eq_getElem i1]
    rfl
  rw [e1, ← e2] at this
  exact this
theorem last_next {fl : List (Str × Kd)} {i : Nat} {p : Str × Kd} (e : fl[i]? = some p) : lastN fl (i + 1) = p.1 := by
  unfold lastN
  rw [List.getElem?_cons_succ, List.getElem?_map, e]
  rfl
theorem abc_nodup : abc.Nodup := by decide +kernel
theorem no_key {F : Addr → Prop} {H : Hp} {fl : List (Str × Kd)} (h : (fl.map Prod.fst).Sublist abc) {i : Nat} {p : Str × Kd} (e : fl[i]? = some p) {kvs : List (L2.Key × V)} (m : Mp F H kvs (fl.take i)) : (kvs.any fun kv => decide (kv.1 = .inr p.1)) = false := by
  rw [List.any_eq_false]
  intro kv hk z
  have z : kv.1 = .inr p.1 := of_decide_eq_true z
  have : kv.1 ∈ (fl.take i).map fun p => (Sum.inr p.1 : L2.Key) := by
    rw [← m.keys]
    exact List.mem_map.mpr ⟨kv, hk, rfl⟩
  obtain ⟨q, hq, eq⟩ := List.mem_map.mp this
  rw [z] at eq
  have eq : q.1 = p.1 := Sum.inr.inj eq
  obtain ⟨j, jl, je⟩ := List.getElem_of_mem hq
  rw [List.length_take] at jl
  rw [List.getElem_take] at je
  obtain ⟨il, ie⟩ := List.getElem?_eq_some_iff.mp e
  have nd := abc_nodup.sublist h
  have := (List.pairwise_iff_getElem.mp nd) j i (by simp; omega) (by simp; omega) (by omega)
  apply this
  rw [List.getElem_map, List.getElem_map, ie, je]
  exact eq
end KB
namespace KB
open PySem L2 PySem.Spec PyProof.Rows
def rDUpd : V → List V → Hp → VK → Prop := fun x vs H Q => ∃ (a b : Addr) (kvs more : List (L2.Key × V)), x = .ref a ∧ vs = [.ref b] ∧ a ≠ b ∧ H a = some (.dK kvs) ∧ H b = some (.dK more) ∧ kvs.length + more.length ≤ 1000 ∧ Q .non (upd H a (.dK (mergeK kvs more)))
theorem mtd_update {X : Cx} : MtR X "dict.update" rDUpd := by
  (intro pins s σ H x vs v us Q I rx rv h)
  obtain ⟨a, b, kvs, more, rfl, rfl, ab, ha, hb, hl, q⟩ := h
  (obtain rfl : v = Value.ref a := rx)
  obtain ⟨u, rfl, ru⟩ := vals1 rv
  obtain rfl : u = Value.ref b := ru
  obtain ⟨z, hd, ws, rel, dd⟩ := dk_of I.hok ha
  obtain ⟨z2, hd2, ws2, rel2, dd2⟩ := dk_of I.hok hb
  have l1 := Paired.length rel
  have l2 := Paired.length rel2
  have lm := length_mergeK more kvs
  have sl : kvs.length + more.length ≤ sizeLine := Nat.le_trans hl (Nat.le_of_lt (small1000 (Nat.le_refl _)))
  refine call_meetsIn PySem.F.slot_dict_update dd.typeIs PySem.F.entry_dict_update (PySem.F.args_dict_update_2 _ _) (meets_dict_update (mixKind X.prog X.w) a b ab hd2) ⟨ws, ws2, dd, dd2, by rw [← l1, ← l2]; exact sl, fun h' dd' dd2' hs => ?_⟩
  (have he : ∃ q, h'.get? a = some q := let ⟨q, _, _, hq, _⟩ := dd'; ⟨q, hq⟩)
  exact ⟨.non, _, d_write (t' := s.toks) I (by rw [ha]; exact True.intro) hs he (dk_new (by omega) hd (KV.merge rel2 rel) dd'), rfl, q⟩
inductive So where
  | t | n | k | s | i
  deriving DecidableEq
def tab : List (Str × List So) := [("name", [.n]), ("fn", [.n, .k, .t]), ("call", [.t, .t]), ("let", [.n, .t, .t]), ("unit", []), ("number", [.i]), ("plus", [.t, .t]), ("times", [.t, .t]), ("minus", [.t]), ("is", [.s, .t, .t]),
  ("pair", [.t, .t]), ("first", [.t]), ("second", [.t]), ("left", [.t, .k]), ("right", [.k, .t]), ("case", [.t, .n, .t, .n, .t]), ("nil", [.k]), ("cons", [.t, .t]), ("fold", [.t, .t, .t])]
def srt (w : Str) : Option (List So) := (tab.find? fun p => decide (p.1 = w)).map (·.2)
theorem srt_tab {w : Str} {ss : List So} (h : srt w = some ss) : (w, ss) ∈ tab := by
  obtain ⟨p, hp, rfl⟩ := Option.map_eq_some_iff.mp h
  have := List.find?_some hp
  rw [← of_decide_eq_true this]
  exact List.mem_of_find?_eq_some hp
theorem srt_all {P : Str × List So → Bool} (a : tab.all P = true) {w : Str} {ss : List So} (h : srt w = some ss) : P (w, ss) = true := List.all_eq_true.mp a _ (srt_tab h)
def So.let_ : So → Str
  | .t => "t" | .n => "n" | .k => "k" | .s => "s" | .i => "i"
def So.name : So → Str
  | .t => "term" | .n => "name" | .k => "kind" | .s => "sign" | .i => "number"
def frS (ss : List So) : Str := ⟨((ss.map fun s => s.let_.cps.toList).flatten).toArray⟩
theorem let_one (s : So) : s.let_.cps.toList = [s.let_.cps.toList.headD 0] := by cases s <;> decide +kernel
theorem frS_list (ss : List So) : (frS ss).cps.toList = ss.map fun s => s.let_.cps.toList.headD 0 := by
  show (((ss.map fun s => s.let_.cps.toList).flatten).toArray).toList = _
  rw [List.toList_toArray]
  induction ss with
  | nil => rfl
  | cons s ss ih => rw [List.map_cons, List.flatten_cons, ih, let_one s]; rfl
theorem frS_len (ss : List So) : (frS ss).length = ss.length := by
  show (frS ss).cps.size = _
  rw [← Array.length_toList, frS_list, List.length_map]
theorem let_str (s : So) : (⟨#[s.let_.cps.toList.headD 0]⟩ : Str) = s.let_ := by cases s <;> decide +kernel
theorem frS_at {ss : List So} {i : Nat} {s : So} (h : ss[i]? = some s) : ∃ c, (frS ss).cps[i]? = some c ∧ (⟨#[c]⟩ : Str) = s.let_ := by
  refine ⟨s.let_.cps.toList.headD 0, ?_, let_str s⟩
  rw [← Array.getElem?_toList, frS_list, List.getElem?_map, h]
  rfl
theorem let_inj {s r : So} (h : s.let_ = r.let_) : s = r := by
  cases s <;> cases r <;> first | rfl | exact absurd h (by decide +kernel)
def fm1 : List (L2.Key × V) := [(.inr "name", .str "n"), (.inr "fn", .str "nkt"), (.inr "call", .str "tt"), (.inr "let", .str "ntt"), (.inr "unit", .str ""), (.inr "number", .str "i"), (.inr "plus", .str "tt")]
def fm2 : List (L2.Key × V) := [(.inr "times", .str "tt"), (.inr "minus", .str "t"), (.inr "is", .str "stt"), (.inr "pair", .str "tt"), (.inr "first", .str "t"), (.inr "second", .str "t"), (.inr "left", .str "tk")]
def fm3 : List (L2.Key × V) := [(.inr "right", .str "kt"), (.inr "case", .str "tntnt"), (.inr "nil", .str "k"), (.inr "cons", .str "tt"), (.inr "fold", .str "ttt")]
def keyIs_ (k : L2.Key) (x : Str) : Bool := match k with | .inr y => decide (y = x) | _ => false
theorem fm_all : (tab.all fun p => decide (valV (mergeK (mergeK (mergeK [] fm1) (mergeK [] fm2)) (mergeK [] fm3)) (.inr p.1) = some (.str (frS p.2)))) = true := by decide +kernel
def spFrm : Sp := fun vs H Q _ => ∃ (w : Str) (ss : List So), vs = [.str w] ∧ srt w = some ss ∧ ∀ H', Same H H' → Q (.str (frS ss)) H'
end KB
namespace KB
open PySem L2 PySem.Spec PyProof.Rows
theorem rc_pos (q c : Nat) : 1 ≤ (PySem.Builtin.Str.reprChar q c).length := by
  unfold PySem.Builtin.Str.reprChar
  repeat' split
  all_goals simp
theorem rc_fold (q : Nat) : ∀ (l : List Nat) (n : Nat), n + l.length ≤ l.foldl (fun n c => n + (PySem.Builtin.Str.reprChar q c).length) n
  | [], n => Nat.le_refl _
  | c :: l, n => by
    have h1 := rc_fold q l (n + (PySem.Builtin.Str.reprChar q c).length)
    have h2 := rc_pos q c
    (rw [List.foldl_cons, List.length_cons])
    omega
theorem sz_str (x : Str) : x.length + 2 ≤ sz (.str x) := by
  have h := rc_fold (PySem.reprQuote x) x.cps.toList 2
  have e : x.length = x.cps.toList.length := Array.length_toList.symm
  rw [sz, PyData.shown_str, ← PySem.reprLen_eq, ← Array.foldl_toList, e]
  omega
section
variable {X : Cx} {d : Addr} {kvs : List (L2.Key × V)}
theorem op_in_ki (D : KI X.prog X.w X.K d kvs) : OpR X (compareOp .In) (fun x y H Q => ∃ k : L2.Key, x = kV k ∧ y = .ref d ∧ Q (.bl (valV kvs k).isSome) H) := by
  (intro pins s σ H x y v u Q I rx ry h)
  obtain ⟨k, rfl, rfl, q⟩ := h
  cases ry
  obtain ⟨vs, rel, dd⟩ := D.ex
  refine wpAny_in_of (kV_is rx) D.low (dd _ I.kIn).mapOf ?_
  rw [← (rel.val k).isSome_eq]
  exact ⟨.bl _, H, I.tok _, rfl, q⟩
end
def letters : Str := "abcdefghijklmnopqrstuvwxyz"
def figures : Str := "0123456789"
def twords : List Str := ["fn", "let", "in", "case", "unit", "num", "list", "nil", "cons", "fold", "first", "second", "left", "right"]
def signs : List Str := ["<", "<=", "=="]
def nmS (x : Str) : Bool := match x.cps.toList with
  | [] => false
  | c :: _ => decide (x.length ≤ 8) && (decide (c ∈ letters.cps.toList) && (!twords.contains x && x.cps.toList.all fun c => decide (c ∈ letters.cps.toList) || decide (c ∈ figures.cps.toList)))
def nmB : PyData → Bool
  | .str x => nmS x
  | _ => false
def hfT : PyData → Bool
  | .tuple (.str w :: ds) => (match srt w with | some ss => decide (ds.length = ss.length) | none => false)
  | _ => false
def sD : PyData → List So
  | .tuple (.str w :: _) => (srt w).getD []
  | _ => []
def tD : PyData → List PyData
  | .tuple (_ :: ds) => ds
  | _ => []
def numB : PyData → Bool
  | .int i => decide (i.natAbs < 10 ^ 400)
  | _ => false
def okS (n : Nat) : So → PyData → Bool
  | .n, d => nmB d
  | .s, d => txB d signs
  | .i, d => numB d
  | .k, d => isK d && decide (d.depth ≤ n)
  | .t, _ => false
mutual
def wp (D N : Nat) : PyData → List Nat → Option (List Nat)
  | .tuple (x :: ds), p => if D ≤ p.length then some p else if hfT (.tuple (x :: ds)) then wpA D N (sD (.tuple (x :: ds))) ds p 1 else some p
  | _, p => some p
def wpA (D N : Nat) : List So → List PyData → List Nat → Nat → Option (List Nat)
  | s :: ss, d :: ds, p, i => (if s = .t then wp D N d (p ++ [i]) else if okS N s d then none else some (p ++ [i])).or (wpA D N ss ds p (i + 1))
  | [], _, _, _ => none
  | _ :: _, [], _, _ => none
end
theorem hfT_tup {d : PyData} (h : hfT d = true) : ∃ (w : Str) (ds : List PyData) (ss : List So), d = .tuple (.str w :: ds) ∧ srt w = some ss ∧ ds.length = ss.length := by
  match d, h with
  | .tuple (.str w :: ds), h =>
    cases e : srt w with
    | none => rw [hfT, e] at h; cases h
    | some ss => rw [hfT, e] at h; exact ⟨w, ds, ss, rfl, e, of_decide_eq_true h⟩
theorem wp_step (D N : Nat) (d : PyData) (p : List Nat) : wp D N d p = if D ≤ p.length ∨ hfT d = false then some p else wpA D N (sD d) (tD d) p 1 := by
  match d with
  | .tuple (x :: ds) =>
    rw [wp]
    by_cases h1 : D ≤ p.length
    · rw [if_pos h1, if_pos (Or.inl h1)]
    · rw [if_neg h1]
      cases h2 : hfT (.tuple (x :: ds)) with
      | true => rw [if_pos rfl, if_neg (by simp [h1])]; rfl
      | false => rw [if_neg Bool.false_ne_true, if_pos (Or.inr rfl)]
  | .tuple [] =>
    refine Eq.trans ?_ (if_pos (Or.inr rfl)).symm
    rw [wp]
    all_goals (intros; rename_i z; cases z)
  | .none =>
    refine Eq.trans ?_ (if_pos (Or.inr rfl)).symm
    rw [wp]
    all_goals (intros; rename_i z; cases z)
  | .bool _ =>
    refine Eq.trans ?_ (if_pos (Or.inr rfl)).symm
    rw [wp]
    all_goals (intros; rename_i z; cases z)
  | .int _ =>
    refine Eq.trans ?_ (if_pos (Or.inr rfl)).symm
    rw [wp]
    all_goals (intros; rename_i z; cases z)
  | .str _ =>
    refine Eq.trans ?_ (if_pos (Or.inr rfl)).symm
    rw [wp]
    all_goals (intros; rename_i z; cases z)
  | .list _ =>
    refine Eq.trans ?_ (if_pos (Or.inr rfl)).symm
    rw [wp]
    all_goals (intros; rename_i z; cases z)
  | .dict _ =>
    refine Eq.trans ?_ (if_pos (Or.inr rfl)).symm
    rw [wp]
    all_goals (intros; rename_i z; cases z)
abbrev Rw := List Nat × So × PyData
def wp1 (D N : Nat) (r : Rw) : Option (List Nat) := if r.2.1 = .t then wp D N r.2.2 r.1 else if okS N r.2.1 r.2.2 then none else some r.1
def wpR (D N : Nat) : List Rw → Option (List Nat)
  | [] => none
  | r :: rs => (wp1 D N r).or (wpR D N rs)
def kidsR (p : List Nat) : List So → List PyData → Nat → List Rw
  | s :: ss, d :: ds, i => (p ++ [i], s, d) :: kidsR p ss ds (i + 1)
  | [], _, _ => []
  | _ :: _, [], _ => []
theorem wpR_kids (D N : Nat) (p : List Nat) : ∀ (ss : List So) (ds : List PyData) (i : Nat), wpR D N (kidsR p ss ds i) = wpA D N ss ds p i
  | [], ds, i => by rw [kidsR, wpR, wpA]
  | s :: ss, [], i => by rw [kidsR, wpR, wpA]
  | s :: ss, d :: ds, i => by rw [kidsR, wpR, wpA, wpR_kids D N p ss ds (i + 1)]; rfl
theorem wpR_app (D N : Nat) : ∀ a b : List Rw, wpR D N (a ++ b) = (wpR D N a).or (wpR D N b)
  | [], b => by rw [List.nil_append, wpR, Option.none_or]
  | r :: a, b => by rw [List.cons_append, wpR, wpR, wpR_app D N a b, Option.or_assoc]
theorem kidsR_len (p : List Nat) : ∀ (ss : List So) (ds : List PyData) (i : Nat), ds.length = ss.length → (kidsR p ss ds i).length = ss.length
  | [], ds, i, _ => by rw [kidsR]; rfl
  | s :: ss, [], i, h => by cases h
  | s :: ss, d :: ds, i, h => by rw [kidsR, List.length_cons, List.length_cons, kidsR_len p ss ds (i + 1) (by simpa using h)]
theorem kidsR_get (p : List Nat) : ∀ (ss : List So) (ds : List PyData) (i j : Nat) (s : So) (d : PyData), ss[j]? = some s → ds[j]? = some d → (kidsR p ss ds i)[j]? = some (p ++ [i + j], s, d)
  | [], ds, i, j, s, d, h, _ => by simp at h
  | s :: ss, [], i, j, _, _, _, h => by simp at h
  | s :: ss, d :: ds, i, 0, s', d', h, h' => by
    rw [kidsR]
    simp at h h'
    subst h h'
    rfl
  | s :: ss, d :: ds, i, j + 1, s', d', h, h' => by
    rw [kidsR, List.getElem?_cons_succ, kidsR_get p ss ds (i + 1) j s' d' (by simpa using h) (by simpa using h')]
    have : i + 1 + j = i + (j + 1) := by omega
    rw [this]
def rwD (r : Rw) : PyData := .tuple [.tuple (r.1.map fun n => .int (n : Nat)), .str r.2.1.name, r.2.2]
mutual
def dsz : PyData → Nat
  | .tuple ds => 1 + dszA ds
  | .list ds => 1 + dszA ds
  | _ => 1
def dszA : List PyData → Nat
  | [] => 0
  | d :: ds => dsz d + dszA ds
end
def rsz (rs : List Rw) : Nat := (rs.map fun r => dsz r.2.2).sum
theorem rsz_app (a b : List Rw) : rsz (a ++ b) = rsz a + rsz b := by unfold rsz; rw [List.map_append, List.sum_append]
theorem rsz_kids (p : List Nat) : ∀ (ss : List So) (ds : List PyData) (i : Nat), rsz (kidsR p ss ds i) ≤ dszA ds
  | [], ds, i => by rw [kidsR]; exact Nat.zero_le _
  | s :: ss, [], i => by rw [kidsR]; exact Nat.zero_le _
  | s :: ss, d :: ds, i => by
    have := rsz_kids p ss ds (i + 1)
    rw [kidsR, dszA]
    show dsz d + rsz (kidsR p ss ds (i + 1)) ≤ _
    omega
theorem dsz_pos : ∀ d : PyData, 1 ≤ dsz d
  | .tuple ds => by rw [dsz]; omega
  | .list ds => by rw [dsz]; omega
  | .none => Nat.le_refl _
  | .bool _ => Nat.le_refl _
  | .int _ => Nat.le_refl _
  | .str _ => Nat.le_refl _
  | .dict _ => Nat.le_refl _
def spHfT : Sp := fun vs H Q _ => ∃ (F : Addr → Prop) (v : V) (d : PyData), vs = [v] ∧ Dt F H v d ∧ Q (.bl (hfT d)) H
def spSo (tS : Str → Addr) : Sp := fun vs H Q _ => ∃ (F : Addr → Prop) (v : V) (w : Str) (ss : List So) (ds : List PyData), vs = [v] ∧ Dt F H v (.tuple (.str w :: ds)) ∧ srt w = some ss ∧ Q (.ref (tS w)) H
def spNm : Sp := fun vs H Q _ => ∃ (F : Addr → Prop) (v : V) (d : PyData), vs = [v] ∧ Dt F H v d ∧ sz d ≤ 4000000 ∧ ∀ H', Same H H' → Q (.bl (nmB d)) H'
def spFew : Sp := fun vs H Q _ => ∃ i : Int, vs = [.int i] ∧ Q (.bl (decide (i.natAbs < 10 ^ 400))) H
def spOs : Sp := fun vs H Q _ => ∃ (F : Addr → Prop) (s : So) (v : V) (d : PyData) (n : Nat), vs = [.str s.name, v, .int n] ∧ s ≠ .t ∧ Dt F H v d ∧ sz d ≤ 4000000 ∧ ∀ H', Same H H' → Q (.bl (okS n s d)) H'
def spWp : Sp := fun vs H Q _ => ∃ (F : Addr → Prop) (v : V) (d : PyData) (D N : Nat), vs = [v, .int D, .int N] ∧ Dt F H v d ∧ sz d ≤ 4000000 ∧ dsz d ≤ 2000000 ∧ D ≤ 100 ∧ (wp D N d [] = none → ∀ H', Same H H' → Q .non H') ∧
  (∀ p, wp D N d [] = some p → ∀ (v' : V) (H' : Hp), Same H H' → Dt (Ot []) H' v' (.tuple (p.map fun n => .int (n : Nat))) → Q v' H')
def spCt : Sp := fun vs H Q _ => ∃ (F : Addr → Prop) (v : V) (d : PyData), vs = [v] ∧ Dt F H v d ∧ sz d ≤ 4000000 ∧ dsz d ≤ 2000000 ∧ wp 100 100 d [] = none ∧ ∀ H', Same H H' → Q .non H'
def sortsK (tS : Str → Addr) : List (L2.Key × V) := tab.map fun p => (.inr p.1, .ref (tS p.1))
theorem sortsK_val (tS : Str → Addr) (w : Str) : valV (sortsK tS) (.inr w) = (srt w).map fun _ => V.ref (tS w) := by
  unfold valV sortsK srt
  rw [List.find?_map]
  have e : ((fun kv : L2.Key × V => decide (kv.1 = .inr w)) ∘ fun p : Str × List So => ((.inr p.1 : L2.Key), V.ref (tS p.1))) = fun p => decide (p.1 = w) := by
    funext p
    by_cases z : p.1 = w
    · simp [z]
    · simp [z]
  rw [e]
  cases h : tab.find? fun p => decide (p.1 = w) with
  | none => rfl
  | some p =>
    have := List.find?_some (p := fun p : Str × List So => decide (p.1 = w)) h
    have := of_decide_eq_true this
    subst this
    rfl
structure Tf (P : Program) (w : World) (K : PySem.W.Frag) (mg : Str → Option Value) (dS : Addr) (tS : Str → Addr) (aW aG : Addr) : Prop where
  gS : mg "SORTS" = some (.ref dS)
  D : KI P w K dS (sortsK tS)
  hS : ∀ (H : Hp) (w : Str) (ss : List So), srt w = some ss → SqT K H (tS w) (ss.map fun s => V.str s.name)
  gW : mg "WORDS" = some (.ref aW)
  hW : ∀ H, SqT K H aW (twords.map V.str)
  gG : mg "SIGNS" = some (.ref aG)
  hG : ∀ H, SqT K H aG (signs.map V.str)
  gL : ∃ t, mg "LETTERS" = some (.str letters t)
  gF : ∃ t, mg "FIGURES" = some (.str figures t)
  gN : ∃ t, mg "LONGEST_NAME" = some (.int 8 t)
  gD : ∃ t, mg "DEEPEST" = some (.int 100 t)
end KB
namespace N3
open PySem PySem.Spec PyProof.Rows L2 KB
def top (i : Nat) : Stmt := PySem.Challenge.pw_bykindalone_k30_relations_of_anything.main.body.getD i (.Pass ⟨0, 0, 0, 0⟩)
abbrev FnP (K : PySem.W.Frag) (x : Str) (st : Stmt) (f : Addr) (fd : FuncData) : Prop :=
  FunD K x x (defArgs st) (defBody st) (defScope st) [] [] f fd
structure Bl (K : PySem.W.Frag) (mg : Str → Option Value) : Prop where
  sys : SysIn K
  int : mg "int" = none
  abs : mg "abs" = none
  divmod : mg "divmod" = none
  len : mg "len" = none
  repr : mg "repr" = none
  isinstance : mg "isinstance" = none
  range : mg "range" = none
  tuple : mg "tuple" = none
  zip : mg "zip" = none
  min : mg "min" = none
  max : mg "max" = none
  all : mg "all" = none
  list : mg "list" = none
  str : mg "str" = none
  bool : mg "bool" = none
section
variable {K : PySem.W.Frag} {mg : Str → Option Value} {base : Heap} {P : Program} {w : World}
end
end N3
namespace N3
open PySem PySem.Spec PyProof.Rows L2 KB
section
variable {P : Program} {w : World} {K : PySem.W.Frag} {mg : Str → Option Value} {base : Heap} {dW t1 t2 t3 aV : Addr} {tk : Nat}
abbrev nTxt : List Str := ["value", "texts"]
theorem scTxt : FnScope nTxt ["value", "texts"] (defScope (top 11)) := ⟨rfl, rfl, rfl, by decide +kernel, rfl, by decide +kernel, by decide +kernel⟩
theorem ok_txt {f : Addr} {fd : FuncData} (F : FnP K "is_text_of" (top 11) f fd) (B : Bl K mg) : FnOk P w K mg base CX0 1 f fd ["value", "texts"] (spTxt K) := by
  refine F.ok scTxt (fun vs H Q E h => ?_) (fun cdv A outer s H vs Q E hr h => ?_)
  · obtain ⟨F, v, t, d, xs, rfl, _⟩ := h
    rfl
  · obtain ⟨Fa, v, t, d, xs, rfl, hd, ht, q⟩ := h
    have sc := scTxt
    refine ⟨_, PSs.nox (pss_one (ps_ret (pe_and (pe_callB call_isi (by rfl) B.isinstance (by decide +kernel) (pa_cons (pv 0) (pa_cons (pe_bltn (v := .ty "str") (by rfl) B.str (by decide +kernel) rfl) pa_nil))) (pe_one (pe_cmpR op_in_seq (pv 0) (pv 1) (by rfl)))))), ?_⟩
    obtain ⟨ty, tyx, k1, k2, k3, k4⟩ := tyD (K := K) hd
    refine ⟨_, rfl, _, _, ty, _, _, rfl, .ty _, tyx, k4, _, rfl, ?_⟩
    cases hd with
    | str x =>
      refine ifT rfl ⟨_, rfl, _, rfl, t, _, rfl, .inr ht, rfl, flat_strs _, ?_⟩
      have e : txB (.str x) xs = inV (.str x) (xs.map V.str) := (inV_str x xs).symm
      rw [e] at q
      exact q
    | int i => exact ifF rfl q
    | bl b => exact ifF rfl q
    | non => exact ifF rfl q
    | lst f h r => exact ifF rfl q
    | tup f h r => exact ifF rfl q
    | emp f h => exact ifF rfl q
abbrev nHf : List Str := ["value"]
theorem scHf : FnScope nHf ["value"] (defScope (top 15)) := ⟨rfl, rfl, rfl, by decide +kernel, rfl, by decide +kernel, by decide +kernel⟩
theorem ok_hf {f : Addr} {fd : FuncData} (F : FnP K "_has_form" (top 15) f fd) (B : Bl K mg) (T : Pf P w K mg dW t1 t2 t3 aV tk) (hV : ∀ H, SqT K H aV (abc.map V.str)) (hX : Has P w K mg base "is_text_of" ["value", "texts"] 1 (spTxt K)) : FnOk P w K mg base CX0 2 f fd ["value"] spHf := by
  obtain ⟨fX, fdX, kX, gX, bX, GX⟩ := hX
  refine F.ok scHf (fun vs H Q E h => ?_) (fun cdv A outer s H vs Q E hr h => ?_)
  · obtain ⟨F, v, d, rfl, _⟩ := h
    rfl
  · obtain ⟨Fa, v, d, rfl, hd, q⟩ := h
    have sc := scHf
    have hrX : Room 1 _ := hr
    refine ⟨_, PSs.nox (pss_cons (ps_if (PW.pt (pw_or (pt_not (pt_val (pe_callB call_isi (by rfl) B.isinstance (by decide +kernel) (pa_cons (pv 0) (pa_cons (pe_bltn (v := .ty "tuple") (by rfl) B.tuple (by decide +kernel) rfl) pa_nil))))) (pw_or1 (pt_cmpR (op_notIn_ki T.D) (pe_callB call_len (by rfl) B.len (by decide +kernel) (pa_cons (pv 0) pa_nil)) (pe_glob (v := .ref dW) rfl T.gW rfl) (by rfl))))) (pss_one (ps_ret pe_bl)) pss_nil) (pss_cons (ps_if (pt_not (pt_val (pe_call GX hrX rfl gX kX bX .nil pass0 (pa_cons (pe_ix ix_tup (pv 0) pe_int (fun _ _ => rfl)) (pa_cons (pe_ix (ix_ki T.D) (pe_glob (v := .ref dW) rfl T.gW rfl) (pe_callB call_len (by rfl) B.len (by decide +kernel) (pa_cons (pv 0) pa_nil)) (fun _ _ => rfl)) pa_nil))))) (pss_one (ps_ret pe_bl)) pss_nil) (pss_one (ps_ret (pe_or (pe_cmpR op_ne (pe_ix ix_tup (pv 0) pe_int (fun _ _ => rfl)) pe_str (nomark _)) (pe_one (pe_call GX hrX rfl gX kX bX .nil pass0 (pa_cons (pe_ix ix_tup (pv 0) pe_int (fun _ _ => rfl)) (pa_cons (pe_glob (v := .ref aV) rfl T.gV rfl) pa_nil))))))))), ?_⟩
    obtain ⟨ty, tyx, k1, k2, k3, k4⟩ := tyD (K := K) hd
    refine ⟨_, rfl, _, _, ty, _, _, rfl, .ty _, tyx, k3, _, rfl, ?_⟩
    cases it : isTup d with
    | false =>
      refine ifT rfl ?_
      rw [hfB_notup it] at q
      exact q
    | true =>
      obtain ⟨ds, rfl⟩ := isTup_of it
      obtain ⟨a, xs, rfl, fa, ha, r⟩ := hd.tupI
      have ll := r.length
      refine ifF rfl ?_
      by_cases g : ds.length = 0 ∨ 4 ≤ ds.length
      · refine ⟨_, rfl, _, _, rfl, .inr ⟨_, SqT.of ha, rfl⟩, .inl (xs.length : Int), rfl, rfl, _, rfl, ifT (by rw [ll]; exact congrArg (fun z => !Option.isSome z) (w3_no g)) ?_⟩
        have e : hfB (.tuple ds) = false := by
          match ds, g with
          | [], _ => rfl
          | [_], g => simp at g
          | [_, _], g => simp at g
          | [_, _, _], g => simp at g
          | _ :: _ :: _ :: _ :: _, _ => rfl
        rw [e] at q
        exact q
      · obtain ⟨x, ds', t, ws, e, val, hS, no, yes⟩ : ∃ (x : PyData) (ds' : List PyData) (t : Addr) (ws : List Str), ds = x :: ds' ∧ valV (w3 t1 t2 t3) (.inl (xs.length : Int)) = some (.ref t) ∧ SqT K H t (ws.map V.str) ∧ (txB x ws = false → hfB (.tuple ds) = false) ∧
            (∀ s, x = .str s → txB x ws = true → (s ≠ "var" → hfB (.tuple ds) = true) ∧ (s = "var" → ∃ y, ds' = [y] ∧ hfB (.tuple ds) = txB y abc)) := by
          match ds, g, ll with
          | [], g, _ => exact absurd (.inl rfl) g
          | [x], _, ll =>
            refine ⟨x, [], t1, ["unit", "num"], rfl, by rw [ll]; rfl, T.s1 H, (fun h => h), fun s e h => ⟨fun _ => h, fun z => ?_⟩⟩
            rw [e, z] at h
            exact absurd h (by decide)
          | [x, y], _, ll =>
            refine ⟨x, [y], t2, ["var", "list"], rfl, by rw [ll]; rfl, T.s2 H, (fun h => ?_), fun s e h => ⟨fun z => ?_, fun z => ⟨y, rfl, ?_⟩⟩⟩
            · show (txB x ["var", "list"] && _) = false
              rw [h]; rfl
            · show (txB x ["var", "list"] && (!txB x ["var"] || _)) = true
              have : txB x ["var"] = false := by
                rw [e]
                show (["var"] : List Str).contains s = false
                simp [z]
              rw [h, this]; rfl
            · show (txB x ["var", "list"] && (!txB x ["var"] || txB y abc)) = txB y abc
              have : txB x ["var"] = true := by rw [e, z]; rfl
              rw [h, this]; rfl
          | [x, y, z], _, ll =>
            refine ⟨x, [y, z], t3, ["pair", "either", "fun"], rfl, by rw [ll]; rfl, T.s3 H, (fun h => h), fun s e h => ⟨fun _ => h, fun z => ?_⟩⟩
            rw [e, z] at h
            exact absurd h (by decide)
          | _ :: _ :: _ :: _ :: _, g, _ => exact absurd (.inr (by simp)) g
        subst e
        refine ⟨_, rfl, _, _, rfl, .inr ⟨_, SqT.of ha, rfl⟩, .inl (xs.length : Int), rfl, rfl, _, rfl, ifF (by
          have : (!(valV (w3 t1 t2 t3) (.inl (xs.length : Int))).isSome) = false := by rw [val]; rfl
          exact this) ?_⟩
        cases r with
        | @cons v0 xs' _ _ h0 r' =>
        refine ⟨_, rfl, a, _, 0, _, rfl, rfl, SqT.of ha, atI_nat (j := 0) rfl, _, rfl, _, _, rfl, .inr ⟨_, SqT.of ha, rfl⟩, .inl _, _, rfl, rfl, val, ?_⟩
        refine ⟨Fa, v0, t, x, ws, rfl, h0, hS, ⟨_, rfl, ?_⟩⟩
        cases tx : txB x ws with
        | false =>
          refine ifT rfl ?_
          rw [no tx] at q
          exact q
        | true =>
          refine ifF rfl ?_
          obtain ⟨s, rfl, _⟩ := txB_str tx
          obtain ⟨y1, y2⟩ := yes s rfl tx
          have e0 := h0.strI
          subst e0
          by_cases sv : s = "var"
          · obtain ⟨y, rfl, ey⟩ := y2 sv
            subst sv
            obtain ⟨v1, rfl, h1⟩ := r'.one
            refine ⟨_, rfl, a, _, 0, _, rfl, rfl, SqT.of ha, atI_nat (j := 0) rfl, rfl, _, rfl, ifF rfl ?_⟩
            refine ⟨_, rfl, a, _, 1, _, rfl, rfl, SqT.of ha, rfl, Fa, v1, aV, y, abc, rfl, h1, hV H, ?_⟩
            rw [ey] at q
            exact q
          · have e1 : (!decide (V.str s = V.str "var")) = true := by
              rw [decide_eq_false fun z => sv (V.str.inj z)]
              rfl
            refine ⟨_, rfl, a, _, 0, _, rfl, rfl, SqT.of ha, atI_nat (j := 0) rfl, rfl, _, rfl, ifT e1 ?_⟩
            have := y1 sv
            rw [this] at q
            exact q
end
end N3
namespace N3
open PySem PySem.Spec PyProof.Rows L2 KB
section
variable {P : Program} {w : World} {K : PySem.W.Frag} {mg : Str → Option Value} {base : Heap} {dW t1 t2 t3 aV : Addr} {tk : Nat}
abbrev nPwl : List Str := ["value", "found", "waiting", "part", "level", "below"]
theorem scPwl : FnScope nPwl ["value"] (defScope (top 14)) := ⟨rfl, rfl, rfl, by decide +kernel, rfl, by decide +kernel, by decide +kernel⟩
theorem ok_pwl {f : Addr} {fd : FuncData} (F : FnP K "_parts_with_levels" (top 14) f fd) (T : Pf P w K mg dW t1 t2 t3 aV tk) (hH : Has P w K mg base "has_form_kinds" ["value"] 2 spHf) : FnOk P w K mg base CX0 3 f fd ["value"] spPw := by
  obtain ⟨fH, fdH, kH, gH, bH, GH⟩ := hH
  refine F.ok scPwl (fun vs H Q E h => ?_) (fun cdv A outer s H vs Q E hr h => ?_)
  · obtain ⟨F, v, d, rfl, _⟩ := h
    rfl
  · obtain ⟨Fa, v, d, rfl, hd, hsz, qN, qY⟩ := h
    have sc := scPwl
    have hrH : Room 2 _ := hr
    refine ⟨_, PSs.nox (pss_cons (ps_set (i := 1) sc.nd rfl (Or.inl rfl) (pe_lst pa_nil)) (pss_cons (ps_set (i := 2) sc.nd rfl (Or.inl rfl) (pe_lst (pa_cons (pe_tup (pa_cons (pv 0) (pa_cons pe_int pa_nil))) pa_nil))) (pss_cons (ps_while PassesOwn.never (pt_truth (pv 2) (by intro _; rfl)) (pss_cons (ps_asg (pe_bm0 PySem.F.plainAttrs_list PySem.F.slot_list_pop PySem.F.type_list_pop mt_pop (pv 2)) (pg_tup rfl (pgs_cons (pg_name (i := 3) sc.nd rfl (Or.inl rfl)) (pgs_cons (pg_name (i := 4) sc.nd rfl (Or.inr rfl)) pgs_nil)))) (pss_cons (ps_if (PW.pt (pw_or (pt_cmpR op_gt (pv 4) (pe_glob (v := .int 100) rfl T.gD ⟨_, rfl⟩) (nomark _)) (pw_or1 (pt_not (pt_val (pe_call GH hrH rfl gH kH bH .nil pass0 (pa_cons (pv 3) pa_nil))))))) (pss_one (ps_ret pe_non)) pss_nil) (pss_cons (ps_expr (pe_bm PySem.F.plainAttrs_list PySem.F.slot_list_append PySem.F.type_list_append mt_append (pv 1) (pa_cons (pe_tup (pa_cons (pv 3) (pa_cons (pv 4) pa_nil))) pa_nil))) (pss_one (ps_if (pt_cmpR op_ne (pe_ix ix_tup (pv 3) pe_int (fun _ _ => rfl)) pe_str (nomark _)) (pss_one (ps_expr (pe_bm PySem.F.plainAttrs_list PySem.F.slot_list_extend PySem.F.type_list_extend mt_extend (pv 2) (pa_cons (pe_lc (own := [("below", 5)]) (g := gName 5) (tt := tYes) (by rfl) sc.nd (pi_tup (pe_slice sl_tupA (pv 3) (po_some pe_int) po_none)) (blkOk_by (own := [("below", 5)]) (N := nPwl) (sc := (defScope (top 14))) (by decide +kernel)) (fun _ _ _ _ _ => (pg_name (i := 5) sc.nd rfl (Or.inl rfl))) (fun _ _ _ _ _ => pts_nil) (fun _ _ _ _ _ => (pe_tup (pa_cons (pv 5) (pa_cons (pe_op op_add (pv 4) pe_int) pa_nil))))) pa_nil)))) pss_nil)))))) (pss_one (ps_ret (pv 1)))))), ?_⟩
    have big : ∀ k : Nat, k ≤ 1000 → k ≤ sizeLine := fun k h => Nat.le_of_lt (small1000 h)
    have h20 : ∀ k : Nat, k ≤ 16000000 → k ≤ sizeLine := fun k h => Nat.le_trans h (by decide)
    refine ⟨Nat.zero_le _, fun G nG => ?_⟩
    refine ⟨_, rfl, big _ (by show (2 : Nat) ≤ 1000; decide), fun t nt => ⟨big _ (by show (1 : Nat) ≤ 1000; decide), fun W nW => ?_⟩⟩
    have nG' : G ≠ t := fun z => by rw [← z, upd_same] at nt; cases nt
    have nGW : G ≠ W := fun z => by rw [← z, upd_ne nG', upd_same] at nW; cases nW
    have ntW : t ≠ W := fun z => by rw [← z, upd_same] at nW; cases nW
    have WH : H W = none := by
      cases e : H W with
      | none => rfl
      | some o =>
        have w1 : W ≠ G := fun z => nGW z.symm
        have w2 : W ≠ t := fun z => ntW z.symm
        rw [upd_ne w2, upd_ne w1, e] at nW
        cases nW
    have start : Same H (upd (upd (upd H G (.lst [])) t (.tup [v, .int 1])) W (.lst [.ref t])) := (Same.new nG).trans ((Same.new nt).trans (Same.new nW))
    have d0 : Dt (Ot [G, W]) (upd (upd (upd H G (.lst [])) t (.tup [v, .int 1])) W (.lst [.ref t])) v d := ((hd.any.wide WH).wide nG).keep start
    refine ⟨fun m σ H1 => ∃ (u3 u4 u5 : Option V) (ws gs : List V) (ps qs : List (PyData × Int)), σ = [some v, some (.ref G), some (.ref W), u3, u4, u5] ∧ Kp [G, W] H H1 ∧ H1 W = some (.lst ws) ∧ H1 G = some (.lst gs) ∧
      DtA (Ot [G, W]) H1 ws (ps.map pvL) ∧ DtA (Ot [G, W]) H1 gs (qs.map pvL) ∧ isK d = ps.all okB ∧ (qs ++ lvL ps).Perm (lv d 1) ∧ m = msz ps ∧ 2 * qs.length + msz ps ≤ sz d ∧ ws.length ≤ 1 + qs.length, ⟨sz d, none, none, none, [.ref t], [], [(d, 1)], [], rfl, Kp.same start, upd_same, ?_, ?_, .nil, ?_, ?_, ?_, ?_, ?_⟩, ?_⟩
    · rw [upd_ne nGW, upd_ne nG', upd_same]
    · refine .cons (.tup ?_ (by rw [upd_ne ntW, upd_same]) (.cons d0 (.cons (.int 1) .nil))) .nil
      intro z
      (rcases (List.mem_cons.mp z) with z | z)
      · exact nG' z.symm
      · exact ntW (List.mem_singleton.mp z)
    · rw [List.all_cons, List.all_nil, Bool.and_true, okB_one]
    · rw [List.nil_append, lvL, lvL, List.append_nil]
    · simp [msz]
    · simp [msz]
    · simp
    rintro m σ H1 ⟨u3, u4, u5, ws, gs, ps, qs, rfl, kp, hW, hG, dw, dg, okps, perm, rfl, cnt, wcnt⟩
    refine ⟨_, rfl, _, .inl ⟨ws, SqL.of hW, rfl⟩, ?_⟩
    rcases List.eq_nil_or_concat ps with rfl | ⟨ps', p, rfl⟩
    · cases dw
      refine ifF rfl ?_
      have thin : Same H H1 := ((kp.thin nG).thin WH).toSame
      refine ⟨_, rfl, qY okps G gs qs H1 thin hG (dg.any) (by rwa [lvL, List.append_nil] at perm) ?_⟩
      omega
    · rw [List.concat_eq_append] at okps perm cnt
      rw [List.map_concat] at dw
      obtain ⟨ws', x, rfl, dw', dx⟩ := DtA.snoc (by simpa using dw)
      obtain ⟨d1, l1⟩ := p
      obtain ⟨t', xs, rfl, ft, ht, rt⟩ := dx.tupI
      obtain ⟨kv, lv1, rfl, dk, dl⟩ := rt.two
      have el := dl.intI
      subst el
      rw [msz_app] at cnt
      have m1 : msz [(d1, l1)] = sz d1 := by simp [msz]
      rw [m1] at cnt
      rw [List.all_append, List.all_cons, List.all_nil, Bool.and_true, okB_step] at okps
      have thin1 : ∀ {H2 : Hp}, Kp [G, W] H H2 → Same H H2 := fun kp => ((kp.thin nG).thin WH).toSame
      refine ifT (by simp) ?_
      refine ⟨fun σ2 H2 => ∃ (u3 u4 u5 : Option V) (ws gs : List V) (ps2 qs : List (PyData × Int)), σ2 = [some v, some (.ref G), some (.ref W), u3, u4, u5] ∧ Kp [G, W] H H2 ∧ H2 W = some (.lst ws) ∧ H2 G = some (.lst gs) ∧
        DtA (Ot [G, W]) H2 ws (ps2.map pvL) ∧ DtA (Ot [G, W]) H2 gs (qs.map pvL) ∧ isK d = ps2.all okB ∧ (qs ++ lvL ps2).Perm (lv d 1) ∧ msz ps2 < msz (ps'.concat (d1, l1)) ∧ 2 * qs.length + msz ps2 ≤ sz d ∧ ws.length ≤ 1 + qs.length, ?_, ?_⟩
      · rintro σ2 H2 ⟨a3, a4, a5, b1, b2, b3, b4, e1, e2, e3, e4, e5, e6, e7, e8, e9, e10, e11⟩
        exact ⟨msz b3, e9, a3, a4, a5, b1, b2, b3, b4, e1, e2, e3, e4, e5, e6, e7, e8, rfl, e10, e11⟩
      refine ⟨_, rfl, .inl ⟨rfl, _, SqL.of hW⟩, W, _, .ref t', rfl, rfl, hW, by simp, ?_⟩
      rw [show (ws' ++ [V.ref t']).dropLast = ws' by simp]
      -- the part, its level
      have kA : Kp [G, W] H1 (upd H1 W (.lst ws')) := Kp.put (by simp)
      have ht1 := kA t' _ ft ht
      refine ⟨t', _, rfl, SqT.of ht1, rfl, _, _, rfl, _, _, rfl, rfl, ?_⟩
      refine ⟨_, rfl, _, _, rfl, rfl, _, rfl, ite2 (fun g => ?_) (fun g => ?_)⟩
      · -- too deep
        have g' : ¬ l1 ≤ 100 := by
          have := of_decide_eq_true g
          omega
        rw [decide_eq_false g', Bool.false_and, Bool.and_false] at okps
        exact qN okps _ (thin1 (kp.trans kA))
      have g' : l1 ≤ 100 := by
        have : ¬ (100 < l1) := of_decide_eq_false (by simpa using g)
        omega
      rw [decide_eq_true g', Bool.true_and] at okps
      refine ⟨_, rfl, Ot [G, W], kv, d1, rfl, dk.kp kA, ⟨_, rfl, ?_⟩⟩
      cases hf : hfB d1 with
      | false =>
        refine ifT rfl ?_
        rw [hf, Bool.false_and, Bool.and_false] at okps
        exact qN okps _ (thin1 (kp.trans kA))
      | true =>
      refine ifF rfl ?_
      rw [hf, Bool.true_and] at okps
      have pz := (pb_sz d1).2 hf
      obtain ⟨s1, ds1, rfl⟩ := hf_tup hf
      -- found.append
      have hG1 : (upd H1 W (.lst ws')) G = some (.lst gs) := by rw [upd_ne nGW]; exact hG
      have lg := dg.length
      rw [List.length_map] at lg
      refine ⟨_, rfl, .inl ⟨rfl, _, SqL.of hG1⟩, _, rfl, _, rfl, big _ (by show (2 : Nat) ≤ 1000; decide), fun t2 n2 => ?_⟩
      have nG2 : G ≠ t2 := ne_of_none hG1 n2
      have hW1 : (upd H1 W (.lst ws')) W = some (.lst ws') := upd_same
      have nW2 : W ≠ t2 := ne_of_none hW1 n2
      have kB := kA.trans (Kp.new (S := [G, W]) (o := .tup [kv, .int l1]) n2)
      refine ⟨G, gs, _, rfl, rfl, by rw [upd_ne nG2]; exact hG1, Nat.lt_of_le_of_lt (by omega : _ ≤ 4000000) (by decide), ?_⟩
      have kC : Kp [G, W] H1 _ := kB.trans (Kp.put (b := G) (o := .lst (gs ++ [.ref t2])) (by simp))
      have st2 : Ot [G, W] t2 := by
        intro z
        (rcases (List.mem_cons.mp z) with z | z)
        · exact nG2 z.symm
        · exact nW2 (List.mem_singleton.mp z).symm
      have h2C : (upd (upd (upd H1 W (.lst ws')) t2 (.tup [kv, .int l1])) G (.lst (gs ++ [.ref t2]))) t2 = some (.tup [kv, .int l1]) := by
        rw [upd_ne (fun z => nG2 z.symm), upd_same]
      have dg2 : DtA (Ot [G, W]) (upd (upd (upd H1 W (.lst ws')) t2 (.tup [kv, .int l1])) G (.lst (gs ++ [.ref t2]))) (gs ++ [.ref t2]) ((qs ++ [((PyData.tuple (.str s1 :: ds1) : PyData), l1)]).map pvL) := by
        rw [List.map_append]
        exact (dg.kp kC).append (.cons (.tup st2 h2C (.cons (dk.kp kC) (.cons (.int l1) .nil))) .nil)
      have hWC : (upd (upd (upd H1 W (.lst ws')) t2 (.tup [kv, .int l1])) G (.lst (gs ++ [.ref t2]))) W = some (.lst ws') := by
        rw [upd_ne (fun z => nGW z.symm), upd_ne nW2, upd_same]
      have hGC : (upd (upd (upd H1 W (.lst ws')) t2 (.tup [kv, .int l1])) G (.lst (gs ++ [.ref t2]))) G = some (.lst (gs ++ [.ref t2])) := upd_same
      have dkC : Dt (Ot [G, W]) _ kv (.tuple (.str s1 :: ds1)) := dk.kp kC
      have dwC := dw'.kp kC
      generalize upd (upd (upd H1 W (.lst ws')) t2 (.tup [kv, .int l1])) G (.lst (gs ++ [.ref t2])) = HC at kC dg2 hWC hGC dkC dwC ⊢
      rw [lvL_app, show lvL [((PyData.tuple (.str s1 :: ds1) : PyData), l1)] = lv (PyData.tuple (.str s1 :: ds1)) l1 ++ [] from rfl, List.append_nil, lv_step hf] at perm
      have permN : ∀ ks : List PyData, ks = pb (.tuple (.str s1 :: ds1)) → ((qs ++ [((PyData.tuple (.str s1 :: ds1) : PyData), l1)]) ++ lvL (ps' ++ ks.map fun k => (k, l1 + 1))).Perm (lv d 1) := fun ks e => by
        rw [e, lvL_app]
        refine List.Perm.trans ?_ perm
        rw [List.append_assoc]
        refine List.Perm.append_left qs ?_
        exact (List.perm_middle (a := ((PyData.tuple (.str s1 :: ds1) : PyData), l1)) (l₁ := lvL ps') (l₂ := lvL ((pb (PyData.tuple (.str s1 :: ds1))).map fun e => (e, l1 + 1)))).symm
      obtain ⟨ak, ys, rfl, fk, hk, rk⟩ := id dkC.tupI
      cases rk with
      | @cons y0 ys' _ _ hy0 rk' =>
      have ey := hy0.strI
      subst ey
      refine ⟨_, rfl, ak, _, 0, _, rfl, rfl, SqT.of hk, atI_nat (j := 0) rfl, rfl, _, rfl, ?_⟩
      have lw := dw'.length
      rw [List.length_map] at lw
      have wcnt' : ws'.length ≤ qs.length := by
        rw [List.length_append] at wcnt
        have : ([V.ref t'] : List V).length = 1 := rfl
        omega
      by_cases sv : s1 = "var"
      · subst sv
        refine ifF rfl ?_
        have ep : pb (.tuple (.str "var" :: ds1)) = [] := by rw [pb]; rfl
        rw [ep] at okps
        refine ⟨_, _, _, ws', gs ++ [.ref t2], ps', qs ++ [(.tuple (.str "var" :: ds1), l1)], rfl, kp.trans kC, hWC, hGC, dwC, dg2, by rw [okps, List.all_nil, Bool.and_true], ?_, ?_, ?_, by rw [List.length_append]; show _ ≤ 1 + (qs.length + 1); omega⟩
        · have := permN [] ep.symm
          rwa [List.map_nil, List.append_nil] at this
        · rw [List.concat_eq_append, msz_app, m1]
          omega
        · rw [List.length_append]
          show 2 * (qs.length + 1) + _ ≤ _
          omega
      have ep : pb (.tuple (.str s1 :: ds1)) = ds1 := by
        rw [pb, if_neg fun z => ?_]
        obtain ⟨u, eu, mu⟩ := txB_str z
        exact sv (by rw [PyData.str.inj eu]; exact List.mem_singleton.mp mu)
      rw [ep] at okps pz
      refine ifT (by rw [decide_eq_false fun z => sv (V.str.inj z)]; rfl) ?_
      -- waiting.extend
      have stC : ∀ p, HC p = none → Ot [G, W] p := ot_new (S := [G, W]) (by
        intro a ha
        rcases List.mem_cons.mp ha with e | e
        · rw [e, hGC]; exact fun z => nomatch z
        · rw [List.mem_singleton.mp e, hWC]; exact fun z => nomatch z)
      have d3 : ds1.length ≤ 2 := by
        match ds1, hf with
        | [], _ => exact Nat.zero_le _
        | [_], _ => exact Nat.le_succ _
        | [_, _], _ => exact Nat.le_refl _
      refine ⟨_, rfl, .inl ⟨rfl, _, SqL.of hWC⟩, slC (K := K) 1 stC rfl dkC fun u HD sD dD => ?_⟩
      obtain ⟨b, xs, rfl, fb, hb, rb⟩ := dD.tupI
      have rb' : DtA (Ot [G, W]) HD xs ds1 := rb
      have lx := rb'.length
      have hGD := sD _ _ hGC
      have hWD := sD _ _ hWC
      refine ⟨b, rfl, ⟨_, SqT.of hb⟩, fun D nD => lc_tup (K := K) (a := b) (xs := xs) (fun i H2 => ∃ acc, H2 D = some (.lst acc) ∧ DtA (Ot [D, G, W]) H2 acc ((ds1.take i).map fun k => pvL (k, l1 + 1)) ∧ Same HD H2) ⟨[], upd_same, .nil, Same.new nD⟩
        (fun i H2 _ hP => SqT.of (hP.choose_spec.2.2 b _ hb)) ?_ ?_⟩
      · rintro i x H2 hi ⟨acc, hD, da, sm⟩
        obtain ⟨k2, hk2, dx⟩ := rb'.get hi
        have il : i < ds1.length := (List.getElem?_eq_some_iff.mp hk2).1
        refine ⟨rfl, ?_⟩
        refine iteT (B := ∃ acc, H2 D = some (.lst acc) ∧ DtA (Ot [D, G, W]) H2 acc ((ds1.take (i + 1)).map fun k => pvL (k, l1 + 1)) ∧ Same HD H2) ?_
        refine ⟨_, rfl, _, rfl, _, _, rfl, rfl, big _ (by show (2 : Nat) ≤ 1000; decide), fun p np => ?_⟩
        have pD : D ≠ p := ne_of_none hD np
        have la := da.length
        rw [List.length_map, List.length_take] at la
        refine ⟨acc, by rw [upd_ne pD]; exact hD, Nat.lt_of_le_of_lt (by omega : _ ≤ 10) (by decide), acc ++ [.ref p], upd_same, ?_, ?_⟩
        · rw [kids_pv _ _ i k2 hk2]
          have kk : Kp [D, G, W] H2 (upd (upd H2 p (.tup [x, .int (l1 + 1)])) D (.lst (acc ++ [.ref p]))) := (Kp.new np).trans (Kp.put (by simp))
          refine (da.kp kk).append (.cons (.tup ?_ ?_ (.cons (((dx.wide nD).keep sm).kp kk) (.cons (.int _) .nil))) .nil)
          · intro z
            (rcases (List.mem_cons.mp z) with z | z)
            · exact pD z.symm
            · (rcases (List.mem_cons.mp z) with z | z)
              · exact ne_of_none (sm _ _ hGD) np z.symm
              · exact ne_of_none (sm _ _ hWD) np (List.mem_singleton.mp z).symm
          · rw [upd_ne (fun z => pD z.symm), upd_same]
        · intro c o e
          have c1 : c ≠ D := ne_of_none e nD
          rw [upd_ne c1, upd_ne (ne_of_none (sm c o e) np)]
          exact sm c o e
      · rintro H2 ⟨acc, hD, da, sm⟩
        rw [lx, List.take_length] at da
        have la := da.length
        rw [List.length_map] at la
        have hW2 := sm _ _ hWD
        have hG2 := sm _ _ hGD
        have wD : W ≠ D := ne_of_none hWD nD
        have kE : Kp [G, W] HC (upd H2 W (.lst (ws' ++ acc))) := (Kp.same (sD.trans sm)).trans (Kp.put (by simp))
        have kF : Kp [G, W] H1 (upd H2 W (.lst (ws' ++ acc))) := kC.trans kE
        refine ⟨W, D, ws', acc, rfl, rfl, hW2, hD, h20 _ (by omega), ?_⟩
        refine ⟨_, _, _, ws' ++ acc, gs ++ [.ref t2], ps' ++ ds1.map (fun k => (k, l1 + 1)), qs ++ [(.tuple (.str s1 :: ds1), l1)], rfl, kp.trans kF, upd_same, by rw [upd_ne nGW]; exact hG2, ?_, dg2.kp kE, ?_, permN ds1 ep.symm, ?_, ?_, ?_⟩
        · rw [List.map_append, List.map_map]
          refine (dw'.kp kF).append ?_
          have : DtA (Ot [G, W]) H2 acc (ds1.map fun k => pvL (k, l1 + 1)) := da.less
          exact this.kp (Kp.put (by simp))
        · rw [okps, List.all_append, List.all_map]
          rfl
        · rw [List.concat_eq_append, msz_app, msz_app, msz_kids, m1]
          omega
        · rw [msz_app, msz_kids, List.length_append]
          show 2 * (qs.length + 1) + _ ≤ _
          omega
        · rw [List.length_append, la, List.length_append]
          show _ ≤ 1 + (qs.length + 1)
          omega
end
end N3
namespace N3
open PySem PySem.Spec PyProof.Rows L2 KB
section
variable {K : PySem.W.Frag} {mg : Str → Option Value} {base : Heap} {P : Program} {w : World}
abbrev nKw : List Str := ["value", "word", "found", "part", "level"]
theorem scKw : FnScope nKw ["value", "word"] (defScope (top 12)) := ⟨rfl, rfl, rfl, by decide +kernel, rfl, by decide +kernel, by decide +kernel⟩
theorem ok_kw {f : Addr} {fd : FuncData} (F : FnP K "_is_kind_without" (top 12) f fd) (B : Bl K mg) (hP : Has P w K mg base "_parts_with_levels" ["value"] 3 spPw) : FnOk P w K mg base CX0 4 f fd ["value", "word"] spKwG := by
  obtain ⟨fP, fdP, kP, gP, bP, GP⟩ := hP
  refine F.ok scKw (fun vs H Q E h => ?_) (fun cdv A outer s H vs Q E hr h => ?_)
  · obtain ⟨F, v, d, wd, rfl, _⟩ := h
    rfl
  · obtain ⟨Fa, v, d, wd, rfl, hd, hsz, hwd, q⟩ := h
    have sc := scKw
    have hrP : Room 3 _ := hr
    refine ⟨_, PSs.nox (pss_cons (ps_set (i := 2) sc.nd rfl (Or.inl rfl) (pe_call GP hrP rfl gP kP bP .nil pass0 (pa_cons (pv 0) pa_nil))) (pss_one (ps_ret (pe_and (pe_cmpR op_notN (pv 2) pe_non (nomark _)) (pe_one (pe_callB (cr_all rfl) (by rfl) B.all (by decide +kernel) (pa_cons (pe_lc (own := [("part", 3), ("level", 4)]) (tt := tYes) (by rfl) sc.nd (pi_list (pv 2)) (blkOk_by (own := [("part", 3), ("level", 4)]) (N := nKw) (sc := (defScope (top 12))) (by decide +kernel)) (fun _ _ _ _ _ => (pgT (K := K) (n := 2) rfl rfl (pgs_cons (pg_name (i := 3) sc.nd rfl (Or.inl rfl)) (pgs_cons (pg_name (i := 4) sc.nd rfl (Or.inl rfl)) pgs_nil)))) (fun _ _ _ _ _ => pts_nil) (fun _ _ _ _ _ => (pe_cmpR op_ne (pe_ix (ixT (K := K) rfl) (pv 3) pe_int (fun _ _ => rfl)) (pv 1) (nomark _)))) pa_nil))))))), ?_⟩
    refine ⟨_, rfl, Fa, v, d, rfl, hd, hsz, fun ik H1 s1 => ?_, fun ik G gs qs H1 s1 hG dg perm cnt => ?_⟩
    · refine ⟨_, rfl, rfl, _, rfl, ifF rfl ?_⟩
      have := q H1 s1
      rw [isDk, isCk, ik, Bool.false_and, Bool.false_and, ite_self] at this
      exact this
    obtain ⟨k, rfl, ov, dp⟩ := isK_ok ik
    rw [lv_d] at perm
    have lg := dg.length
    rw [List.length_map] at lg
    refine ⟨_, rfl, rfl, _, rfl, ifT rfl ?_⟩
    refine ⟨_, rfl, G, rfl, ⟨_, SqL.of hG⟩, fun D nD => lc_list (K := K) (a := G) (xs := gs) (fun i H2 => Same H1 H2 ∧ H2 D = some (.lst (((qs.take i).map (nw wd)).map V.bl))) ⟨Same.new nD, upd_same⟩ (fun i H2 _ hP => SqL.of (hP.1 G _ hG)) ?_ ?_⟩
    · rintro i e H2 hi ⟨sm, hD⟩
      obtain ⟨de, hde, dte⟩ := dg.get hi
      have il : i < gs.length := (List.getElem?_eq_some_iff.mp hi).1
      obtain ⟨p1, hk1, rfl⟩ : ∃ p, qs[i]? = some p ∧ pvL p = de := by
        rw [List.getElem?_map] at hde
        cases e : qs[i]? with
        | none => rw [e] at hde; cases hde
        | some k2 => rw [e] at hde; exact ⟨k2, rfl, Option.some.inj hde⟩
      have mem := perm.mem_iff.mp (List.mem_of_getElem? hk1)
      obtain ⟨⟨k1, l1⟩, _, rfl⟩ := List.mem_map.mp mem
      obtain ⟨t, xs, rfl, ft, ht, rt⟩ := dte.tupI
      obtain ⟨kv, lv1, rfl, dk, dl⟩ := rt.two
      have el := dl.intI
      subst el
      obtain ⟨ds, ek⟩ : ∃ ds, k1.d = .tuple (.str k1.word :: ds) := by
        cases k1 <;> exact ⟨_, rfl⟩
      have dk' : Dt (Ot []) H1 kv k1.d := dk
      rw [ek] at dk'
      obtain ⟨a, ys, rfl, fa, ha, ra⟩ := dk'.tupI
      cases ra with
      | @cons y0 ys' _ _ h0 ra' =>
      have e0 := h0.strI
      subst e0
      refine ⟨t, _, rfl, SqT.of (sm t _ ht), rfl, _, _, rfl, _, _, rfl, rfl, rfl, ?_⟩
      refine iteT (B := Same H1 H2 ∧ H2 D = some (.lst (((qs.take (i + 1)).map (nw wd)).map V.bl))) ?_
      refine ⟨_, rfl, a, _, 0, _, rfl, rfl, SqT.of (sm a _ ha), atI_nat (j := 0) rfl, _, rfl, rfl, _, hD, Nat.lt_of_le_of_lt (by rw [List.length_map, List.length_map, List.length_take]; omega : _ ≤ 4000000) (by decide), fun b o e2 => ?_, ?_⟩
      · rw [upd_ne (ne_of_none e2 nD)]
        exact sm b o e2
      · rw [upd_same, List.take_add_one, hk1, List.map_append, List.map_append]
        show _ = some (HO.lst (_ ++ [V.bl (nw wd (kdL (k1, l1)))]))
        rw [nw_d]
    · rintro H2 ⟨sm, hD⟩
      rw [lg, List.take_length] at hD
      refine ⟨D, _, rfl, SqL.of hD, ?_⟩
      have e : (qs.map (nw wd)).all id = (if wd = "fun" then isDk k.d else isCk k.d) := by
        rw [List.all_map]
        show qs.all (nw wd) = _
        rw [all_perm _ perm]
        rcases hwd with rfl | rfl
        · rw [lvs_fun, if_pos rfl, isDk, ik, nf_d]; rfl
        · rw [lvs_var, if_neg (by decide), isCk, ik, cl_d]; rfl
      rw [e]
      exact q H2 (s1.trans sm)
abbrev nIs : List Str := ["value"]
theorem scDk : FnScope nIs ["value"] (defScope (top 8)) := ⟨rfl, rfl, rfl, by decide +kernel, rfl, by decide +kernel, by decide +kernel⟩
theorem scCk : FnScope nIs ["value"] (defScope (top 9)) := ⟨rfl, rfl, rfl, by decide +kernel, rfl, by decide +kernel, by decide +kernel⟩
theorem ok_dk {f : Addr} {fd : FuncData} (F : FnP K "is_data_kind" (top 8) f fd) (hW : Has P w K mg base "_is_kind_without" ["value", "word"] 4 spKwG) : FnOk P w K mg base CX0 5 f fd ["value"] (spIsG isDk) := by
  obtain ⟨fW, fdW, kW, gW, bW, GW⟩ := hW
  refine F.ok scDk (fun vs H Q E h => ?_) (fun cdv A outer s H vs Q E hr h => ?_)
  · obtain ⟨F, v, d, rfl, _⟩ := h
    rfl
  · obtain ⟨Fa, v, d, rfl, hd, hsz, q⟩ := h
    have sc := scDk
    have hrW : Room 4 _ := hr
    refine ⟨_, PSs.nox (pss_one (ps_ret (pe_call GW hrW rfl gW kW bW .nil pass0 (pa_cons (pv 0) (pa_cons pe_str pa_nil))))), ?_⟩
    exact ⟨_, rfl, Fa, v, d, _, rfl, hd, hsz, .inl rfl, q⟩
theorem ok_ck {f : Addr} {fd : FuncData} (F : FnP K "is_closed_kind" (top 9) f fd) (hW : Has P w K mg base "_is_kind_without" ["value", "word"] 4 spKwG) : FnOk P w K mg base CX0 5 f fd ["value"] (spIsG isCk) := by
  obtain ⟨fW, fdW, kW, gW, bW, GW⟩ := hW
  refine F.ok scCk (fun vs H Q E h => ?_) (fun cdv A outer s H vs Q E hr h => ?_)
  · obtain ⟨F, v, d, rfl, _⟩ := h
    rfl
  · obtain ⟨Fa, v, d, rfl, hd, hsz, q⟩ := h
    have sc := scCk
    have hrW : Room 4 _ := hr
    refine ⟨_, PSs.nox (pss_one (ps_ret (pe_call GW hrW rfl gW kW bW .nil pass0 (pa_cons (pv 0) (pa_cons pe_str pa_nil))))), ?_⟩
    exact ⟨_, rfl, Fa, v, d, _, rfl, hd, hsz, .inr rfl, fun H' s' => by have := q H' s'; rwa [if_neg (by decide)]⟩
abbrev nTp : List Str := ["kind", "found"]
theorem scTp : FnScope nTp ["kind"] (defScope (top 13)) := ⟨rfl, rfl, rfl, by decide +kernel, rfl, by decide +kernel, by decide +kernel⟩
theorem ok_tp {f : Addr} {fd : FuncData} (F : FnP K "_told_parts" (top 13) f fd) (hP : Has P w K mg base "_parts_with_levels" ["value"] 3 spPw) : FnOk P w K mg base CX0 4 f fd ["kind"] spTp := by
  obtain ⟨fP, fdP, kP, gP, bP, GP⟩ := hP
  refine F.ok scTp (fun vs H Q E h => ?_) (fun cdv A outer s H vs Q E hr h => ?_)
  · obtain ⟨F, v, k, rfl, _⟩ := h
    rfl
  · obtain ⟨Fa, v, k, rfl, hd, ov, dp, hsz, q⟩ := h
    have sc := scTp
    have hrP : Room 3 _ := hr
    refine ⟨_, PSs.nox (pss_cons (ps_set (i := 1) sc.nd rfl (Or.inl rfl) (pe_call GP hrP rfl gP kP bP .nil pass0 (pa_cons (pv 0) pa_nil))) (pss_cons (ps_if (pt_cmpR op_isN (pv 1) pe_non (nomark _)) (pss_one (ps_never)) pss_nil) (pss_one (ps_ret (pv 1))))), ?_⟩
    refine ⟨_, rfl, Fa, v, k.d, rfl, hd, hsz, fun ik H1 s1 => ?_, fun ik G gs qs H1 s1 hG dg perm cnt => ?_⟩
    · rw [isK_d ov dp] at ik
      cases ik
    · rw [lv_d] at perm
      exact ⟨_, rfl, rfl, _, rfl, ifF rfl ⟨_, rfl, q G gs qs H1 s1 hG dg perm cnt⟩⟩
abbrev nDp : List Str := ["kind", "part", "level"]
end
end N3
namespace N3
open PySem PySem.Spec PyProof.Rows L2 KB
section
variable {K : PySem.W.Frag} {mg : Str → Option Value} {base : Heap} {P : Program} {w : World}
abbrev nNb : List Str := ["value"]
theorem scNb : FnScope nNb ["value"] (defScope (top 19)) := ⟨rfl, rfl, rfl, by decide +kernel, rfl, by decide +kernel, by decide +kernel⟩
theorem ok_nb {f : Addr} {fd : FuncData} (F : FnP K "is_number" (top 19) f fd) (B : Bl K mg) : FnOk P w K mg base CX0 1 f fd ["value"] spNb := by
  refine F.ok scNb (fun vs H Q E h => ?_) (fun cdv A outer s H vs Q E hr h => ?_)
  · obtain ⟨F, v, d, rfl, _⟩ := h
    rfl
  · obtain ⟨Fa, v, d, rfl, hd, q⟩ := h
    have sc := scNb
    refine ⟨_, PSs.nox (pss_one (ps_ret (pe_and (pe_callB call_isi (by rfl) B.isinstance (by decide +kernel) (pa_cons (pv 0) (pa_cons (pe_bltn (v := .ty "int") (by rfl) B.int (by decide +kernel) rfl) pa_nil))) (pe_one (pe_not (pe_callB call_isi (by rfl) B.isinstance (by decide +kernel) (pa_cons (pv 0) (pa_cons (pe_bltn (v := .ty "bool") (by rfl) B.bool (by decide +kernel) rfl) pa_nil)))))))), ?_⟩
    obtain ⟨ty, tyx, k1, k2, k3, k4⟩ := tyD (K := K) hd
    refine ⟨_, rfl, _, _, ty, _, _, rfl, .ty _, tyx, k1, _, rfl, ?_⟩
    cases hd with
    | int i => exact ifT rfl ⟨_, rfl, _, _, ty, _, _, rfl, .ty _, tyx, k2, _, rfl, q⟩
    | bl b => exact ifT rfl ⟨_, rfl, _, _, ty, _, _, rfl, .ty _, tyx, k2, _, rfl, q⟩
    | non => exact ifF rfl q
    | str x => exact ifF rfl q
    | lst f h r => exact ifF rfl q
    | tup f h r => exact ifF rfl q
    | emp f h => exact ifF rfl q
end
end N3
namespace V3
open N3
open PySem PySem.Spec PyProof.Rows L2 KB
section
variable {K : PySem.W.Frag} {mg : Str → Option Value} {base : Heap} {P : Program} {w : World}
abbrev nKw : List Str := ["value", "word", "found", "part", "level"]
theorem scKw : FnScope nKw ["value", "word"] (defScope (top 12)) := ⟨rfl, rfl, rfl, by decide +kernel, rfl, by decide +kernel, by decide +kernel⟩
theorem ok_kw {f : Addr} {fd : FuncData} (F : FnP K "_is_kind_without" (top 12) f fd) (B : Bl K mg) (hP : Has P w K mg base "_parts_with_levels" ["value"] 3 spPwl) : FnOk P w K mg base CX0 4 f fd ["value", "word"] spKw := by
  obtain ⟨fP, fdP, kP, gP, bP, GP⟩ := hP
  refine F.ok scKw (fun vs H Q E h => ?_) (fun cdv A outer s H vs Q E hr h => ?_)
  · obtain ⟨F, v, k, wd, rfl, _⟩ := h
    rfl
  · obtain ⟨Fa, v, k, wd, rfl, hd, hc, hnf, hdp, hkz, hwd, q⟩ := h
    have sc := scKw
    have hrP : Room 3 _ := hr
    refine ⟨_, PSs.nox (pss_cons (ps_set (i := 2) sc.nd rfl (Or.inl rfl) (pe_call GP hrP rfl gP kP bP .nil pass0 (pa_cons (pv 0) pa_nil))) (pss_one (ps_ret (pe_and (pe_cmpR op_notN (pv 2) pe_non (nomark _)) (pe_one (pe_callB (cr_all rfl) (by rfl) B.all (by decide +kernel) (pa_cons (pe_lc (own := [("part", 3), ("level", 4)]) (tt := tYes) (by rfl) sc.nd (pi_list (pv 2)) (blkOk_by (own := [("part", 3), ("level", 4)]) (N := nKw) (sc := (defScope (top 12))) (by decide +kernel)) (fun _ _ _ _ _ => (pgT (K := K) (n := 2) rfl rfl (pgs_cons (pg_name (i := 3) sc.nd rfl (Or.inl rfl)) (pgs_cons (pg_name (i := 4) sc.nd rfl (Or.inl rfl)) pgs_nil)))) (fun _ _ _ _ _ => pts_nil) (fun _ _ _ _ _ => (pe_cmpR op_ne (pe_ix (ixT (K := K) rfl) (pv 3) pe_int (fun _ _ => rfl)) (pv 1) (nomark _)))) pa_nil))))))), ?_⟩
    refine ⟨_, rfl, Fa, v, k, rfl, hd, hc, hnf, hdp, hkz, fun G gs ps H1 s1 hG dg okp cnt => ?_⟩
    have lg := dg.length
    rw [List.length_map] at lg
    refine ⟨_, rfl, rfl, _, rfl, ifT rfl ?_⟩
    refine ⟨_, rfl, G, rfl, ⟨_, SqL.of hG⟩, fun D nD => lc_list (K := K) (a := G) (xs := gs) (fun i H2 => Same H1 H2 ∧ H2 D = some (.lst (List.replicate i (V.bl true)))) ⟨Same.new nD, upd_same⟩ (fun i H2 _ hP => SqL.of (hP.1 G _ hG)) ?_ ?_⟩
    · rintro i e H2 hi ⟨sm, hD⟩
      obtain ⟨de, hde, dte⟩ := dg.get hi
      have il : i < gs.length := (List.getElem?_eq_some_iff.mp hi).1
      obtain ⟨⟨k1, l1⟩, hk1, rfl⟩ : ∃ p, ps[i]? = some p ∧ lvD p = de := by
        rw [List.getElem?_map] at hde
        cases e : ps[i]? with
        | none => rw [e] at hde; cases hde
        | some k2 => rw [e] at hde; exact ⟨k2, rfl, Option.some.inj hde⟩
      obtain ⟨hc1, hn1⟩ := okp _ (List.mem_of_getElem? hk1)
      obtain ⟨t, xs, rfl, ft, ht, rt⟩ := dte.tupI
      obtain ⟨kv, lv, rfl, dk, dl⟩ := rt.two
      have dk' : Dt (Ot []) H1 kv k1.d := dk
      rw [Kd.d_eq hc1] at dk'
      obtain ⟨a, ys, rfl, fa, ha, ra⟩ := dk'.tupI
      cases ra with
      | @cons y0 ys' _ _ h0 ra' =>
      have e0 := h0.strI
      subst e0
      have ne : k1.word ≠ wd := by
        rcases hwd with rfl | rfl
        · exact Kd.not_fun hn1
        · exact Kd.not_var hc1
      refine ⟨t, _, rfl, SqT.of (sm t _ ht), rfl, _, _, rfl, _, _, rfl, rfl, rfl, ?_⟩
      refine iteT (B := Same H1 H2 ∧ H2 D = some (.lst (List.replicate (i + 1) (V.bl true)))) ?_
      refine ⟨_, rfl, a, _, 0, _, rfl, rfl, SqT.of (sm a _ ha), atI_nat (j := 0) rfl, _, rfl, rfl, _, hD, Nat.lt_of_le_of_lt (by rw [List.length_replicate]; omega : _ ≤ 10000) (by decide), fun b o e2 => ?_, ?_⟩
      · rw [upd_ne (ne_of_none e2 nD)]
        exact sm b o e2
      · rw [upd_same, decide_eq_false fun z => ne (V.str.inj z), List.replicate_succ', Bool.not_false]
    · rintro H2 ⟨sm, hD⟩
      refine ⟨D, List.replicate gs.length true, rfl, ?_, ?_⟩
      · rw [List.map_replicate]
        exact SqL.of hD
      · have : (List.replicate gs.length true).all id = true := by
          rw [List.all_replicate]
          simp
        rw [this]
        exact q H2 (s1.trans sm)
abbrev nDk : List Str := ["value"]
theorem scDk : FnScope nDk ["value"] (defScope (top 8)) := ⟨rfl, rfl, rfl, by decide +kernel, rfl, by decide +kernel, by decide +kernel⟩
theorem scCk8 : FnScope nDk ["value"] (defScope (top 9)) := ⟨rfl, rfl, rfl, by decide +kernel, rfl, by decide +kernel, by decide +kernel⟩
theorem ok_dk {f : Addr} {fd : FuncData} (F : FnP K "is_data_kind" (top 8) f fd) (hW : Has P w K mg base "_is_kind_without" ["value", "word"] 4 spKw) : FnOk P w K mg base CX0 5 f fd ["value"] spDk := by
  obtain ⟨fW, fdW, kW, gW, bW, GW⟩ := hW
  refine F.ok scDk (fun vs H Q E h => ?_) (fun cdv A outer s H vs Q E hr h => ?_)
  · obtain ⟨F, v, k, rfl, _⟩ := h
    rfl
  · obtain ⟨Fa, v, k, rfl, hd, hc, hnf, hdp, hkz, q⟩ := h
    have sc := scDk
    have hrW : Room 4 _ := hr
    refine ⟨_, PSs.nox (pss_one (ps_ret (pe_call GW hrW rfl gW kW bW .nil pass0 (pa_cons (pv 0) (pa_cons pe_str pa_nil))))), ?_⟩
    exact ⟨_, rfl, Fa, v, k, _, rfl, hd, hc, hnf, hdp, hkz, .inl rfl, q⟩
theorem ok_ck8 {f : Addr} {fd : FuncData} (F : FnP K "is_closed_kind" (top 9) f fd) (hW : Has P w K mg base "_is_kind_without" ["value", "word"] 4 spKw) : FnOk P w K mg base CX0 5 f fd ["value"] spDk := by
  obtain ⟨fW, fdW, kW, gW, bW, GW⟩ := hW
  refine F.ok scCk8 (fun vs H Q E h => ?_) (fun cdv A outer s H vs Q E hr h => ?_)
  · obtain ⟨F, v, k, rfl, _⟩ := h
    rfl
  · obtain ⟨Fa, v, k, rfl, hd, hc, hnf, hdp, hkz, q⟩ := h
    have sc := scCk8
    have hrW : Room 4 _ := hr
    refine ⟨_, PSs.nox (pss_one (ps_ret (pe_call GW hrW rfl gW kW bW .nil pass0 (pa_cons (pv 0) (pa_cons pe_str pa_nil))))), ?_⟩
    exact ⟨_, rfl, Fa, v, k, _, rfl, hd, hc, hnf, hdp, hkz, .inr rfl, q⟩
abbrev nCk : List Str := ["kind"]
theorem scCk : FnScope nCk ["kind"] (defScope (top 20)) := ⟨rfl, rfl, rfl, by decide +kernel, rfl, by decide +kernel, by decide +kernel⟩
theorem ok_ck {f : Addr} {fd : FuncData} (F : FnP K "_check_kind" (top 20) f fd) (hD : Has P w K mg base "is_data_kind" ["value"] 5 spDk) (hC : Has P w K mg base "is_closed_kind" ["value"] 5 spDk) : FnOk P w K mg base CX0 6 f fd ["kind"] spCk := by
  obtain ⟨fD, fdD, kD, gD, bD, GD⟩ := hD
  obtain ⟨fC, fdC, kC, gC, bC, GC⟩ := hC
  refine F.ok scCk (fun vs H Q E h => ?_) (fun cdv A outer s H vs Q E hr h => ?_)
  · obtain ⟨F, v, k, rfl, _⟩ := h
    rfl
  · obtain ⟨Fa, v, k, rfl, hd, hc, hnf, hdp, hkz, q⟩ := h
    have sc := scCk
    have hrD : Room 5 _ := hr
    have hrC : Room 5 _ := hr
    refine ⟨_, PSs.nox (pss_one (ps_if (PW.pt (pw_or (pt_not (pt_val (pe_call GD hrD rfl gD kD bD .nil pass0 (pa_cons (pv 0) pa_nil)))) (pw_or1 (pt_not (pt_val (pe_call GC hrC rfl gC kC bC .nil pass0 (pa_cons (pv 0) pa_nil))))))) (pss_one ps_never) pss_nil)), ?_⟩
    refine ⟨_, rfl, Fa, v, k, rfl, hd, hc, hnf, hdp, hkz, fun H1 s1 => ⟨_, rfl, ifF rfl ?_⟩⟩
    exact ⟨_, rfl, Fa, v, k, rfl, hd.keep s1, hc, hnf, hdp, hkz, fun H2 s2 => ⟨_, rfl, ifF rfl (q H2 (s1.trans s2))⟩⟩
end
end V3
namespace V3
open N3
open PySem PySem.Spec PyProof.Rows L2 KB
section
variable {K : PySem.W.Frag} {mg : Str → Option Value} {base : Heap} {P : Program} {w : World}
abbrev nNb : List Str := ["value"]
theorem scNb : FnScope nNb ["value"] (defScope (top 19)) := ⟨rfl, rfl, rfl, by decide +kernel, rfl, by decide +kernel, by decide +kernel⟩
theorem ok_nb {f : Addr} {fd : FuncData} (F : FnP K "is_number" (top 19) f fd) (B : Bl K mg) : FnOk P w K mg base CX0 1 f fd ["value"] spNb := by
  refine F.ok scNb (fun vs H Q E h => ?_) (fun cdv A outer s H vs Q E hr h => ?_)
  · obtain ⟨F, v, d, rfl, _⟩ := h
    rfl
  · obtain ⟨Fa, v, d, rfl, hd, q⟩ := h
    have sc := scNb
    refine ⟨_, PSs.nox (pss_one (ps_ret (pe_and (pe_callB call_isi (by rfl) B.isinstance (by decide +kernel) (pa_cons (pv 0) (pa_cons (pe_bltn (v := .ty "int") (by rfl) B.int (by decide +kernel) rfl) pa_nil))) (pe_one (pe_not (pe_callB call_isi (by rfl) B.isinstance (by decide +kernel) (pa_cons (pv 0) (pa_cons (pe_bltn (v := .ty "bool") (by rfl) B.bool (by decide +kernel) rfl) pa_nil)))))))), ?_⟩
    obtain ⟨ty, tyx, k1, k2, k3, k4⟩ := tyD (K := K) hd
    refine ⟨_, rfl, _, _, ty, _, _, rfl, .ty _, tyx, k1, _, rfl, ?_⟩
    cases hd with
    | int i => exact ifT rfl ⟨_, rfl, _, _, ty, _, _, rfl, .ty _, tyx, k2, _, rfl, q⟩
    | bl b => exact ifT rfl ⟨_, rfl, _, _, ty, _, _, rfl, .ty _, tyx, k2, _, rfl, q⟩
    | non => exact ifF rfl q
    | str x => exact ifF rfl q
    | lst f h r => exact ifF rfl q
    | tup f h r => exact ifF rfl q
    | emp f h => exact ifF rfl q
abbrev nHv : List Str := ["kind", "value", "word"]
theorem scHv : FnScope nHv ["kind", "value"] (defScope (top 22)) := ⟨rfl, rfl, rfl, by decide +kernel, rfl, by decide +kernel, by decide +kernel⟩
theorem ok_hv {f : Addr} {fd : FuncData} (F : FnP K "_has_form" (top 22) f fd) (B : Bl K mg) (hN : Has P w K mg base "is_number" ["value"] 1 spNb) (hX : Has P w K mg base "is_text_of" ["value", "texts"] 1 (spTxt K)) : FnOk P w K mg base CX0 2 f fd ["kind", "value"] spHv := by
  obtain ⟨fN, fdN, kN, gN, bN, GN⟩ := hN
  obtain ⟨fX, fdX, kX, gX, bX, GX⟩ := hX
  refine F.ok scHv (fun vs H Q E h => ?_) (fun cdv A outer s H vs Q E hr h => ?_)
  · obtain ⟨F, kv, v, k, d, rfl, _⟩ := h
    rfl
  · obtain ⟨Fa, kv, v, k, d, rfl, hk, hcl, hnf, hd, q⟩ := h
    have sc := scHv
    have hrN : Room 1 _ := hr
    have hrX : Room 1 _ := hr
    refine ⟨_, PSs.nox (pss_cons (ps_set (i := 2) sc.nd rfl (Or.inl rfl) (pe_ix ix_tup (pv 0) pe_int (fun _ _ => rfl))) (pss_cons (ps_if (pt_cmpR op_eq (pv 2) pe_str (nomark _)) (pss_one (ps_ret (pe_call GN hrN rfl gN kN bN .nil pass0 (pa_cons (pv 1) pa_nil)))) pss_nil) (pss_cons (ps_if (pt_not (pt_val (pe_callB call_isi (by rfl) B.isinstance (by decide +kernel) (pa_cons (pv 1) (pa_cons (pe_bltn (v := .ty "tuple") (by rfl) B.tuple (by decide +kernel) rfl) pa_nil))))) (pss_one (ps_ret pe_bl)) pss_nil) (pss_cons (ps_if (pt_cmpR op_eq (pv 2) pe_str (nomark _)) (pss_one (ps_ret (pe_cmpR op_eq (pe_callB call_len (by rfl) B.len (by decide +kernel) (pa_cons (pv 1) pa_nil)) pe_int (nomark _)))) pss_nil) (pss_cons (ps_if (pt_cmpR op_eq (pv 2) pe_str (nomark _)) (pss_one (ps_ret (pe_and (pe_cmpR op_eq (pe_callB call_len (by rfl) B.len (by decide +kernel) (pa_cons (pv 1) pa_nil)) pe_int (nomark _)) (pe_one (pe_call GX hrX rfl gX kX bX .nil pass0 (pa_cons (pe_ix ix_tup (pv 1) pe_int (fun _ _ => rfl)) (pa_cons (pe_tup (pa_cons pe_str pa_nil)) pa_nil))))))) pss_nil) (pss_cons (ps_if (pt_cmpR op_eq (pv 2) pe_str (nomark _)) (pss_one (ps_ret (pe_and (pe_cmpR op_eq (pe_callB call_len (by rfl) B.len (by decide +kernel) (pa_cons (pv 1) pa_nil)) pe_int (nomark _)) (pe_one (pe_call GX hrX rfl gX kX bX .nil pass0 (pa_cons (pe_ix ix_tup (pv 1) pe_int (fun _ _ => rfl)) (pa_cons (pe_tup (pa_cons pe_str (pa_cons pe_str pa_nil))) pa_nil))))))) pss_nil) (pss_one (ps_ret pe_bl)))))))), ?_⟩
    have big : ∀ k : Nat, k ≤ 1000 → k ≤ sizeLine := fun k h => Nat.le_of_lt (small1000 h)
    have no : ∀ {x y : Str}, x ≠ y → decide (V.str x = V.str y) = false := fun h => decide_eq_false fun z => h (V.str.inj z)
    obtain ⟨a, rfl, fa, ka⟩ := kd_at hk
    obtain ⟨ty, tyx, k1, k2, k3, k4⟩ := tyD (K := K) hd
    cases k with
    | var x => cases hcl
    | fn x y => cases hnf
    | num =>
      refine ⟨_, rfl, a, _, 0, _, rfl, rfl, SqT.of ka, rfl, ?_⟩
      refine ⟨_, rfl, rfl, _, rfl, ifT (decide_eq_true rfl) ?_⟩
      exact ⟨_, rfl, Fa, v, d, rfl, hd, q H (Same.refl H)⟩
    | unit =>
      refine ⟨_, rfl, a, _, 0, _, rfl, rfl, SqT.of ka, rfl, ?_⟩
      refine ⟨_, rfl, rfl, _, rfl, ifF (no (by decide)) ?_⟩
      refine ⟨_, rfl, _, _, ty, _, _, rfl, .ty _, tyx, k3, _, rfl, ?_⟩
      cases hd with
      | tup f h r =>
        rename_i t xs ds
        refine ifF rfl ⟨_, rfl, rfl, _, rfl, ifT (decide_eq_true rfl) ?_⟩
        refine ⟨_, rfl, _, _, rfl, .inr ⟨_, SqT.of h, rfl⟩, rfl, ?_⟩
        have q' := q H (Same.refl H)
        have e : hasF .unit (.tuple ds) = decide (V.int ((xs.length : Nat) : Int) = V.int 0) := by
          show decide (ds.length = 0) = _
          rw [← r.length]
          by_cases z : xs.length = 0
          · rw [decide_eq_true z, decide_eq_true (by rw [z]; rfl)]
          · rw [decide_eq_false z, decide_eq_false fun y => z (by have := V.int.inj y; omega)]
        rw [e] at q'
        exact q'
      | non => exact iteT (q H (Same.refl H))
      | bl b => exact iteT (q H (Same.refl H))
      | int i => exact iteT (q H (Same.refl H))
      | str x => exact iteT (q H (Same.refl H))
      | lst f h r => exact iteT (q H (Same.refl H))
      | emp f h => exact iteT (q H (Same.refl H))
    | lst x =>
      obtain ⟨vx, h0, dx⟩ := ka
      refine ⟨_, rfl, a, _, 0, _, rfl, rfl, SqT.of h0, rfl, ?_⟩
      refine ⟨_, rfl, rfl, _, rfl, ifF (no (by decide)) ?_⟩
      refine ⟨_, rfl, _, _, ty, _, _, rfl, .ty _, tyx, k3, _, rfl, ?_⟩
      cases hd with
      | tup f h r =>
        refine ifF rfl ⟨_, rfl, rfl, _, rfl, ifF (no (by decide)) ?_⟩
        refine ⟨_, rfl, rfl, _, rfl, ifF (no (by decide)) ?_⟩
        exact ⟨_, rfl, rfl, _, rfl, ifF (no (by decide)) (q H (Same.refl H))⟩
      | non => exact iteT (q H (Same.refl H))
      | bl b => exact iteT (q H (Same.refl H))
      | int i => exact iteT (q H (Same.refl H))
      | str x => exact iteT (q H (Same.refl H))
      | lst f h r => exact iteT (q H (Same.refl H))
      | emp f h => exact iteT (q H (Same.refl H))
    | pair x y =>
      obtain ⟨vx, vy, h0, dx, dy⟩ := ka
      refine ⟨_, rfl, a, _, 0, _, rfl, rfl, SqT.of h0, rfl, ?_⟩
      refine ⟨_, rfl, rfl, _, rfl, ifF (no (by decide)) ?_⟩
      refine ⟨_, rfl, _, _, ty, _, _, rfl, .ty _, tyx, k3, _, rfl, ?_⟩
      cases hd with
      | tup f h r =>
        rename_i t xs ds
        refine ifF rfl ⟨_, rfl, rfl, _, rfl, ifF (no (by decide)) ?_⟩
        refine ⟨_, rfl, rfl, _, rfl, ifT (decide_eq_true rfl) ?_⟩
        refine ⟨_, rfl, _, _, rfl, .inr ⟨_, SqT.of h, rfl⟩, rfl, ?_⟩
        have ln := r.length
        refine ⟨_, rfl, ?_⟩
        by_cases z : xs.length = 3
        · refine ifT (decide_eq_true (by rw [z]; rfl)) ?_
          cases r with
          | nil => cases z
          | @cons u us d0 ds0 hu ru =>
            refine ⟨_, rfl, t, _, 0, _, rfl, rfl, SqT.of h, atI_nat (j := 0) rfl, big _ (by show (1 : Nat) ≤ 1000; decide), fun p np => ?_⟩
            have sm := @Same.new p _ (.tup [.str "pair"]) np
            refine ⟨Fa, u, p, d0, ["pair"], rfl, hu.keep sm, SqT.of upd_same, ?_⟩
            have q' := q _ sm
            have e : hasF (.pair x y) (.tuple (d0 :: ds0)) = txB d0 ["pair"] := by
              show (decide (ds0.length = 2) && _) = _
              rw [decide_eq_true (by rw [← ru.length]; rw [List.length_cons] at z; omega), Bool.true_and]
            rw [e] at q'
            exact q'
        · refine ifF (decide_eq_false fun y => z (by have := V.int.inj y; omega)) ?_
          have q' := q H (Same.refl H)
          have e : hasF (.pair x y) (.tuple ds) = false := by
            cases ds with
            | nil => rfl
            | cons d0 ds0 =>
              show (decide (ds0.length = 2) && _) = _
              rw [decide_eq_false (fun y => z (by rw [ln, List.length_cons, y])), Bool.false_and]
          rw [e] at q'
          exact q'
      | non => exact iteT (q H (Same.refl H))
      | bl b => exact iteT (q H (Same.refl H))
      | int i => exact iteT (q H (Same.refl H))
      | str x => exact iteT (q H (Same.refl H))
      | lst f h r => exact iteT (q H (Same.refl H))
      | emp f h => exact iteT (q H (Same.refl H))
    | eith x y =>
      obtain ⟨vx, vy, h0, dx, dy⟩ := ka
      refine ⟨_, rfl, a, _, 0, _, rfl, rfl, SqT.of h0, rfl, ?_⟩
      refine ⟨_, rfl, rfl, _, rfl, ifF (no (by decide)) ?_⟩
      refine ⟨_, rfl, _, _, ty, _, _, rfl, .ty _, tyx, k3, _, rfl, ?_⟩
      cases hd with
      | tup f h r =>
        rename_i t xs ds
        refine ifF rfl ⟨_, rfl, rfl, _, rfl, ifF (no (by decide)) ?_⟩
        refine ⟨_, rfl, rfl, _, rfl, ifF (no (by decide)) ?_⟩
        refine ⟨_, rfl, rfl, _, rfl, ifT (decide_eq_true rfl) ?_⟩
        refine ⟨_, rfl, _, _, rfl, .inr ⟨_, SqT.of h, rfl⟩, rfl, ?_⟩
        have ln := r.length
        refine ⟨_, rfl, ?_⟩
        by_cases z : xs.length = 2
        · refine ifT (decide_eq_true (by rw [z]; rfl)) ?_
          cases r with
          | nil => cases z
          | @cons u us d0 ds0 hu ru =>
            refine ⟨_, rfl, t, _, 0, _, rfl, rfl, SqT.of h, atI_nat (j := 0) rfl, big _ (by show (2 : Nat) ≤ 1000; decide), fun p np => ?_⟩
            have sm := @Same.new p _ (.tup [.str "left", .str "right"]) np
            refine ⟨Fa, u, p, d0, ["left", "right"], rfl, hu.keep sm, SqT.of upd_same, ?_⟩
            have q' := q _ sm
            have e : hasF (.eith x y) (.tuple (d0 :: ds0)) = txB d0 ["left", "right"] := by
              show (decide (ds0.length = 1) && _) = _
              rw [decide_eq_true (by rw [← ru.length]; rw [List.length_cons] at z; omega), Bool.true_and]
            rw [e] at q'
            exact q'
        · refine ifF (decide_eq_false fun y => z (by have := V.int.inj y; omega)) ?_
          have q' := q H (Same.refl H)
          have e : hasF (.eith x y) (.tuple ds) = false := by
            cases ds with
            | nil => rfl
            | cons d0 ds0 =>
              show (decide (ds0.length = 1) && _) = _
              rw [decide_eq_false (fun y => z (by rw [ln, List.length_cons, y])), Bool.false_and]
          rw [e] at q'
          exact q'
      | non => exact iteT (q H (Same.refl H))
      | bl b => exact iteT (q H (Same.refl H))
      | int i => exact iteT (q H (Same.refl H))
      | str x => exact iteT (q H (Same.refl H))
      | lst f h r => exact iteT (q H (Same.refl H))
      | emp f h => exact iteT (q H (Same.refl H))
end
end V3
namespace V3
open N3
open PySem PySem.Spec PyProof.Rows L2 KB
section
variable {K : PySem.W.Frag} {mg : Str → Option Value} {base : Heap} {P : Program} {w : World}
abbrev nPb : List Str := ["kind", "value", "word", "thing"]
theorem scPb : FnScope nPb ["kind", "value"] (defScope (top 24)) := ⟨rfl, rfl, rfl, by decide +kernel, rfl, by decide +kernel, by decide +kernel⟩
theorem ok_pb {f : Addr} {fd : FuncData} (F : FnP K "_parts_below" (top 24) f fd) : FnOk P w K mg base CX0 1 f fd ["kind", "value"] spPb := by
  refine F.ok scPb (fun vs H Q E h => ?_) (fun cdv A outer s H vs Q E hr h => ?_)
  · obtain ⟨F, kv, v, k, d, n, rfl, _⟩ := h
    rfl
  · obtain ⟨Fa, kv, v, k, d, n, rfl, hF, hk, hcl, hnf, hd, hh, hs, q⟩ := h
    have sc := scPb
    refine ⟨_, PSs.nox (pss_cons (ps_set (i := 2) sc.nd rfl (Or.inl rfl) (pe_ix ix_tup (pv 0) pe_int (fun _ _ => rfl))) (pss_cons (ps_if (pt_cmpR op_eq (pv 2) pe_str (nomark _)) (pss_one (ps_ret (pe_lst (pa_cons (pe_tup (pa_cons (pe_ix ix_tup (pv 0) pe_int (fun _ _ => rfl)) (pa_cons (pe_ix ix_tup (pv 1) pe_int (fun _ _ => rfl)) pa_nil))) (pa_cons (pe_tup (pa_cons (pe_ix ix_tup (pv 0) pe_int (fun _ _ => rfl)) (pa_cons (pe_ix ix_tup (pv 1) pe_int (fun _ _ => rfl)) pa_nil))) pa_nil))))) pss_nil) (pss_cons (ps_if (pt_cmpR op_eq (pv 2) pe_str (nomark _)) (pss_one (ps_ret (pe_lst (pa_cons (pe_tup (pa_cons (pe_ifExp (pt_cmpR op_eq (pe_ix ix_tup (pv 1) pe_int (fun _ _ => rfl)) pe_str (nomark _)) (pe_ix ix_tup (pv 0) pe_int (fun _ _ => rfl)) (pe_ix ix_tup (pv 0) pe_int (fun _ _ => rfl))) (pa_cons (pe_ix ix_tup (pv 1) pe_int (fun _ _ => rfl)) pa_nil))) pa_nil)))) pss_nil) (pss_cons (ps_if (pt_cmpR op_eq (pv 2) pe_str (nomark _)) (pss_one (ps_ret (pe_lc (own := [("thing", 3)]) (g := gName 3) (tt := tYes) (by rfl) sc.nd (pi_tup (pv 1)) (blkOk_by (own := [("thing", 3)]) (N := nPb) (sc := (defScope (top 24))) (by decide +kernel)) (fun _ _ _ _ _ => (pg_name (i := 3) sc.nd rfl (Or.inl rfl))) (fun _ _ _ _ _ => pts_nil) (fun _ _ _ _ _ => (pe_tup (pa_cons (pe_ix (ixT (K := K) rfl) (pv 0) pe_int (fun _ _ => rfl)) (pa_cons (pv 3) pa_nil))))))) pss_nil) (pss_one (ps_ret (pe_lst pa_nil))))))), ?_⟩
    have big : ∀ k : Nat, k ≤ 1000 → k ≤ sizeLine := fun k h => Nat.le_of_lt (small1000 h)
    have no : ∀ {x y : Str}, x ≠ y → decide (V.str x = V.str y) = false := fun h => decide_eq_false fun z => h (V.str.inj z)
    obtain ⟨a, rfl, fa, ka⟩ := kd_at hk
    cases k with
    | var x => cases hcl
    | fn x y => cases hnf
    | num =>
      refine ⟨_, rfl, a, _, 0, _, rfl, rfl, SqT.of ka, rfl, ?_⟩
      refine ⟨_, rfl, rfl, _, rfl, ifF (no (by decide)) ?_⟩
      refine ⟨_, rfl, rfl, _, rfl, ifF (no (by decide)) ?_⟩
      refine ⟨_, rfl, rfl, _, rfl, ifF (no (by decide)) ?_⟩
      exact ⟨Nat.zero_le _, fun L nL => q L [] _ (Same.new nL) nL upd_same .nil⟩
    | unit =>
      refine ⟨_, rfl, a, _, 0, _, rfl, rfl, SqT.of ka, rfl, ?_⟩
      refine ⟨_, rfl, rfl, _, rfl, ifF (no (by decide)) ?_⟩
      refine ⟨_, rfl, rfl, _, rfl, ifF (no (by decide)) ?_⟩
      refine ⟨_, rfl, rfl, _, rfl, ifF (no (by decide)) ?_⟩
      exact ⟨Nat.zero_le _, fun L nL => q L [] _ (Same.new nL) nL upd_same .nil⟩
    | pair kx ky =>
      obtain ⟨vx, vy, h0, dx, dy⟩ := ka
      obtain ⟨x, y, rfl⟩ := hasF_pair hh
      obtain ⟨t, xs, rfl, ft, ht, rt⟩ := hd.tupI
      obtain ⟨x0, x1, x2, rfl, e0, e1, e2⟩ := rt.three
      refine ⟨_, rfl, a, _, 0, _, rfl, rfl, SqT.of h0, rfl, ?_⟩
      refine ⟨_, rfl, rfl, _, rfl, ifT (decide_eq_true rfl) ?_⟩
      refine ⟨_, rfl, a, _, 1, _, rfl, rfl, SqT.of h0, rfl, _, rfl, t, _, 1, _, rfl, rfl, SqT.of ht, rfl, big _ (by show (2 : Nat) ≤ 1000; decide), fun p np => ?_⟩
      have s1 := @Same.new p _ (.tup [vx, x1]) np
      refine ⟨_, rfl, a, _, 2, _, rfl, rfl, SqT.of (s1 _ _ h0), rfl, _, rfl, t, _, 2, _, rfl, rfl, SqT.of (s1 _ _ ht), rfl, big _ (by show (2 : Nat) ≤ 1000; decide), fun p2 np2 => ⟨big _ (by show (2 : Nat) ≤ 1000; decide), fun L nL => ?_⟩⟩
      have s2 := s1.trans (@Same.new p2 _ (.tup [vy, x2]) np2)
      have s3 := s2.trans (@Same.new L _ (.lst [.ref p, .ref p2]) nL)
      have a1 : Dt Fa (upd H p (.tup [vx, x1])) (.ref p) (pvD (kx, x)) := layD hF np (.cons dx (.cons e1 .nil))
      have t3 := (@Same.new p2 _ (.tup [vy, x2]) np2).trans (@Same.new L _ (.lst [.ref p, .ref p2]) nL)
      have a2 : Dt Fa (upd (upd H p (.tup [vx, x1])) p2 (.tup [vy, x2])) (.ref p2) (pvD (ky, y)) := layD (fun c hc => hF c (s1.free hc)) np2 (.cons (dy.keep s1) (.cons (e2.keep s1) .nil))
      exact q L _ _ s3 (s2.free nL) upd_same (.cons (a1.keep t3) (.cons (a2.keep (Same.new nL)) .nil))
    | eith kx ky =>
      obtain ⟨vx, vy, h0, dx, dy⟩ := ka
      obtain ⟨p, x, rfl, hp⟩ := hasF_eith hh
      obtain ⟨t, xs, rfl, ft, ht, rt⟩ := hd.tupI
      obtain ⟨x0, x1, rfl, e0, e1⟩ := rt.two
      have ez := e0.strI
      subst ez
      refine ⟨_, rfl, a, _, 0, _, rfl, rfl, SqT.of h0, rfl, ?_⟩
      refine ⟨_, rfl, rfl, _, rfl, ifF (no (by decide)) ?_⟩
      refine ⟨_, rfl, rfl, _, rfl, ifT (decide_eq_true rfl) ?_⟩
      refine ⟨_, rfl, t, _, 0, _, rfl, rfl, SqT.of ht, rfl, rfl, _, rfl, ?_⟩
      rcases hp with rfl | rfl
      · refine ifT (decide_eq_true rfl) ⟨_, rfl, a, _, 1, _, rfl, rfl, SqT.of h0, rfl, _, rfl, t, _, 1, _, rfl, rfl, SqT.of ht, rfl, big _ (by show (2 : Nat) ≤ 1000; decide), fun p np => ⟨big _ (by show (1 : Nat) ≤ 1000; decide), fun L nL => ?_⟩⟩
        have s1 := @Same.new p _ (.tup [vx, x1]) np
        have a1 : Dt Fa (upd H p (.tup [vx, x1])) (.ref p) (pvD (kx, x)) := layD hF np (.cons dx (.cons e1 .nil))
        exact q L _ _ (s1.trans (Same.new nL)) (s1.free nL) upd_same (.cons (a1.keep (Same.new nL)) .nil)
      · refine ifF (no (by decide)) ⟨_, rfl, a, _, 2, _, rfl, rfl, SqT.of h0, rfl, _, rfl, t, _, 1, _, rfl, rfl, SqT.of ht, rfl, big _ (by show (2 : Nat) ≤ 1000; decide), fun p np => ⟨big _ (by show (1 : Nat) ≤ 1000; decide), fun L nL => ?_⟩⟩
        have s1 := @Same.new p _ (.tup [vy, x1]) np
        have a1 : Dt Fa (upd H p (.tup [vy, x1])) (.ref p) (pvD (ky, x)) := layD hF np (.cons dy (.cons e1 .nil))
        exact q L _ _ (s1.trans (Same.new nL)) (s1.free nL) upd_same (.cons (a1.keep (Same.new nL)) .nil)
    | lst kx =>
      obtain ⟨vx, h0, dx⟩ := ka
      obtain ⟨ds, rfl⟩ := hasF_lst hh
      obtain ⟨t, xs, rfl, ft, ht, rt⟩ := hd.tupI
      have lx := rt.length
      have lz := szA_len ds
      rw [sz] at hs
      refine ⟨_, rfl, a, _, 0, _, rfl, rfl, SqT.of h0, rfl, ?_⟩
      refine ⟨_, rfl, rfl, _, rfl, ifF (no (by decide)) ?_⟩
      refine ⟨_, rfl, rfl, _, rfl, ifF (no (by decide)) ?_⟩
      refine ⟨_, rfl, rfl, _, rfl, ifT (decide_eq_true rfl) ?_⟩
      refine ⟨_, rfl, t, rfl, ⟨_, SqT.of ht⟩, fun D nD => lc_tup (K := K) (a := t) (xs := xs) (fun i H2 => ∃ acc, H2 D = some (.lst acc) ∧ DtA (fun c => Fa c ∧ c ≠ D) H2 acc ((ds.take i).map fun x => pvD (kx, x)) ∧ Same H H2) ⟨[], upd_same, .nil, Same.new nD⟩
        (fun i H2 _ hP => SqT.of (hP.choose_spec.2.2 t _ ht)) ?_ ?_⟩
      · rintro i x H2 hi ⟨acc, hD, da, sm⟩
        obtain ⟨dd, hdd, dxx⟩ := rt.get hi
        have il : i < xs.length := (List.getElem?_eq_some_iff.mp hi).1
        refine ⟨rfl, ?_⟩
        refine iteT (B := ∃ acc, H2 D = some (.lst acc) ∧ DtA (fun c => Fa c ∧ c ≠ D) H2 acc ((ds.take (i + 1)).map fun x => pvD (kx, x)) ∧ Same H H2) ?_
        refine ⟨_, rfl, a, _, 1, _, rfl, rfl, SqT.of (sm _ _ h0), rfl, _, rfl, big _ (by show (2 : Nat) ≤ 1000; decide), fun p np => ?_⟩
        have pD : D ≠ p := ne_of_none hD np
        have la := da.length
        rw [List.length_map, List.length_take] at la
        refine ⟨acc, by rw [upd_ne pD]; exact hD, Nat.lt_of_le_of_lt (by omega : _ ≤ 10000000) (by decide), acc ++ [.ref p], upd_same, ?_, ?_⟩
        · rw [pv_row _ _ i dd hdd]
          have kk : ∀ c o, c ≠ D → H2 c = some o → (upd (upd H2 p (.tup [vx, x])) D (.lst (acc ++ [.ref p]))) c = some o := fun c o n e => by
            rw [upd_ne n, upd_ne (ne_of_none e np)]
            exact e
          have k0 : ∀ {v : V} {d : PyData}, Dt Fa H v d → Dt (fun c => Fa c ∧ c ≠ D) (upd (upd H2 p (.tup [vx, x])) D (.lst (acc ++ [.ref p]))) v d := fun h => h.move fun c o f e => ⟨⟨f, ne_of_none e nD⟩, kk c o (ne_of_none e nD) (sm c o e)⟩
          refine (da.move fun c o f e => ⟨f, kk c o f.2 e⟩).append (.cons (.tup ⟨hF p (sm.free np), fun z => pD z.symm⟩ ?_ (.cons (k0 dx) (.cons (k0 dxx) .nil))) .nil)
          rw [upd_ne (fun z => pD z.symm), upd_same]
        · intro c o e
          have c1 : c ≠ D := ne_of_none e nD
          rw [upd_ne c1, upd_ne (ne_of_none (sm c o e) np)]
          exact sm c o e
      · rintro H2 ⟨acc, hD, da, sm⟩
        rw [lx, List.take_length] at da
        refine q D acc H2 sm nD hD ?_
        have : (pbs (.lst kx) (.tuple ds)).map pvD = ds.map fun x => pvD (kx, x) := by
          show (ds.map fun x => (kx, x)).map pvD = _
          rw [List.map_map]
          rfl
        rw [this]
        exact da.move fun c o f e => ⟨f.1, e⟩
abbrev nSu : List Str := ["kind", "value", "waiting", "asked", "part"]
theorem scSu : FnScope nSu ["kind", "value"] (defScope (top 21)) := ⟨rfl, rfl, rfl, by decide +kernel, rfl, by decide +kernel, by decide +kernel⟩
theorem ok_su {f : Addr} {fd : FuncData} (F : FnP K "_stands_under" (top 21) f fd) (hH : Has P w K mg base "has_form_values" ["kind", "value"] 2 spHv) (hB : Has P w K mg base "_parts_below" ["kind", "value"] 1 spPb) : FnOk P w K mg base CX0 3 f fd ["kind", "value"] spSu := by
  obtain ⟨fH, fdH, kH, gH, bH, GH⟩ := hH
  obtain ⟨fB, fdB, kB, gB, bB, GB⟩ := hB
  refine F.ok scSu (fun vs H Q E h => ?_) (fun cdv A outer s H vs Q E hr h => ?_)
  · obtain ⟨F, kv, v, k, d, rfl, _⟩ := h
    rfl
  · obtain ⟨Fa, kv, v, k, d, rfl, hk, hcl, hnf, hd, hsz, q⟩ := h
    have sc := scSu
    have hrH : Room 2 _ := hr
    have hrB : Room 1 _ := hr.mono (by omega)
    refine ⟨_, PSs.nox (pss_cons (ps_set (i := 2) sc.nd rfl (Or.inl rfl) (pe_lst (pa_cons (pe_tup (pa_cons (pv 0) (pa_cons (pv 1) pa_nil))) pa_nil))) (pss_cons (ps_while PassesOwn.never (pt_truth (pv 2) (by intro _; rfl)) (pss_cons (ps_asg (pe_bm0 PySem.F.plainAttrs_list PySem.F.slot_list_pop PySem.F.type_list_pop mt_pop (pv 2)) (pg_tup rfl (pgs_cons (pg_name (i := 3) sc.nd rfl (Or.inl rfl)) (pgs_cons (pg_name (i := 4) sc.nd rfl (Or.inl rfl)) pgs_nil)))) (pss_cons (ps_if (pt_not (pt_val (pe_call GH hrH rfl gH kH bH .nil pass0 (pa_cons (pv 3) (pa_cons (pv 4) pa_nil))))) (pss_one (ps_ret pe_bl)) pss_nil) (pss_one (ps_expr (pe_bm PySem.F.plainAttrs_list PySem.F.slot_list_extend PySem.F.type_list_extend mt_extend (pv 2) (pa_cons (pe_call GB hrB rfl gB kB bB .nil pass0 (pa_cons (pv 3) (pa_cons (pv 4) pa_nil))) pa_nil))))))) (pss_one (ps_ret pe_bl)))), ?_⟩
    have big : ∀ k : Nat, k ≤ 1000 → k ≤ sizeLine := fun k h => Nat.le_of_lt (small1000 h)
    have hm : ∀ k : Nat, k ≤ 10000001 → k ≤ sizeLine := fun k h => Nat.le_trans h (by decide)
    refine ⟨_, rfl, _, rfl, big _ (by show (2 : Nat) ≤ 1000; decide), fun t nt => ⟨big _ (by show (1 : Nat) ≤ 1000; decide), fun W nW => ?_⟩⟩
    have s1 := @Same.new t _ (.tup [kv, v]) nt
    have WH := s1.free nW
    have tW : t ≠ W := fun z => by rw [← z, upd_same] at nW; cases nW
    have start := s1.trans (@Same.new W _ (.lst [.ref t]) nW)
    have st1 : ∀ p, (upd H t (.tup [kv, v])) p = none → Ot [W] p → Ot [W] p := fun _ _ h => h
    refine ⟨fun m σ H1 => ∃ (u3 u4 : Option V) (ws : List V) (ps : List (Kd × PyData)), σ = [some kv, some v, some (.ref W), u3, u4] ∧ Kp [W] H H1 ∧ H1 W = some (.lst ws) ∧ DtA (Ot [W]) H1 ws (ps.map pvD) ∧ (∀ p ∈ ps, p.1.closed = true ∧ p.1.noFn = true) ∧
      isV k d = (ps.all fun p => isV p.1 p.2) ∧ m = wz ps ∧ wz ps ≤ 10000001, ⟨_, none, none, [.ref t], [(k, d)], rfl, Kp.same start, upd_same, ?_, ?_, ?_, rfl, ?_⟩, ?_⟩
    · refine .cons (.tup (fun z => tW (List.mem_singleton.mp z)) (by rw [upd_ne tW, upd_same]) (.cons ?_ (.cons ?_ .nil))) .nil
      · exact (hk.any.wide WH).keep start
      · exact (hd.any.wide WH).keep start
    · intro p hp
      rw [List.mem_singleton.mp hp]
      exact ⟨hcl, hnf⟩
    · show _ = (isV k d && true)
      rw [Bool.and_true]
    · show sz d + 1 + 0 ≤ _
      omega
    rintro m σ H1 ⟨u3, u4, ws, ps, rfl, kp, hW, dw, okp, hiv, rfl, cnt⟩
    refine ⟨_, rfl, _, .inl ⟨ws, SqL.of hW, rfl⟩, ?_⟩
    rcases List.eq_nil_or_concat ps with rfl | ⟨ps', p, rfl⟩
    · cases dw
      refine ifF rfl ?_
      have q' := q H1 (kp.thin WH).toSame
      rw [hiv] at q'
      exact q'
    · obtain ⟨k1, d1⟩ := p
      rw [List.concat_eq_append] at hiv cnt okp dw ⊢
      rw [List.map_append] at dw
      obtain ⟨ws', x, rfl, dw', dx⟩ := DtA.snoc dw
      obtain ⟨hc1, hn1⟩ := okp (k1, d1) (by simp)
      obtain ⟨t', xs, rfl, ft, ht, rt⟩ := dx.tupI
      obtain ⟨kv1, v1, rfl, dk, dv⟩ := rt.two
      have dk' : Dt (Ot [W]) H1 kv1 k1.d := dk
      have dv' : Dt (Ot [W]) H1 v1 d1 := dv
      have mz : wz (ps' ++ [(k1, d1)]) = wz ps' + (sz d1 + 1) := wz_app _ _
      have hiv' : isV k d = ((ps'.all fun p => isV p.1 p.2) && (hasF k1 d1 && (pbs k1 d1).all fun p => isV p.1 p.2)) := by
        rw [hiv, List.all_append, ← isV_eq k1 d1 hc1 hn1]
        show _ = (_ && isV k1 d1)
        simp
      refine ifT (by simp) ?_
      refine ⟨fun σ2 H2 => ∃ (u3 u4 : Option V) (ws : List V) (ps2 : List (Kd × PyData)), σ2 = [some kv, some v, some (.ref W), u3, u4] ∧ Kp [W] H H2 ∧ H2 W = some (.lst ws) ∧ DtA (Ot [W]) H2 ws (ps2.map pvD) ∧ (∀ p ∈ ps2, p.1.closed = true ∧ p.1.noFn = true) ∧
        isV k d = (ps2.all fun p => isV p.1 p.2) ∧ wz ps2 < wz (ps' ++ [(k1, d1)]) ∧ wz ps2 ≤ 10000001, ?_, ?_⟩
      · rintro σ2 H2 ⟨a3, a4, b1, b2, e1, e2, e3, e4, e5, e6, e7, e8⟩
        exact ⟨wz b2, e7, a3, a4, b1, b2, e1, e2, e3, e4, e5, e6, rfl, e8⟩
      refine ⟨_, rfl, .inl ⟨rfl, _, SqL.of hW⟩, W, _, .ref t', rfl, rfl, hW, by simp, ?_⟩
      rw [show (ws' ++ [V.ref t']).dropLast = ws' by simp]
      have kA : Kp [W] H1 (upd H1 W (.lst ws')) := Kp.put (by simp)
      refine ⟨t', _, rfl, SqT.of (kA t' _ ft ht), rfl, _, _, rfl, _, _, rfl, rfl, ?_⟩
      have hWA : (upd H1 W (.lst ws')) W = some (.lst ws') := upd_same
      have dkA := dk'.kp kA
      have dvA := dv'.kp kA
      have dwA := dw'.kp kA
      generalize upd H1 W (.lst ws') = HA at kA hWA dkA dvA dwA ⊢
      refine ⟨_, rfl, _, rfl, Ot [W], kv1, v1, k1, d1, rfl, dkA, hc1, hn1, dvA, fun H2 s2 => ⟨_, rfl, ?_⟩⟩
      by_cases hh : hasF k1 d1 = true
      · refine ifF (by rw [hh]; rfl) ?_
        have hW2 := s2 _ _ hWA
        refine ⟨_, rfl, .inl ⟨rfl, _, SqL.of hW2⟩, _, rfl, _, rfl, Ot [W], kv1, v1, k1, d1, 0, rfl, (fun p np z => by
          rw [List.mem_singleton.mp z] at np
          rw [np] at hW2
          cases hW2), dkA.keep s2, hc1, hn1, dvA.keep s2, hh, by omega, fun L ls H3 s3 nL hL dl => ?_⟩
        have hW3 := s3 _ _ hW2
        have l1 := dwA.length
        have l2 := dl.length
        rw [List.length_map] at l1 l2
        have w1 := wz_len ps'
        have w2 := wz_len (pbs k1 d1)
        have w3 := wz_pbs k1 d1
        refine ⟨W, L, ws', ls, rfl, rfl, hW3, hL, hm _ (by omega), ?_⟩
        have kE : Kp [W] HA (upd H3 W (.lst (ws' ++ ls))) := (Kp.same (s2.trans s3)).trans (Kp.put (by simp))
        refine ⟨_, _, ws' ++ ls, ps' ++ pbs k1 d1, rfl, kp.trans (kA.trans kE), upd_same, ?_, ?_, ?_, ?_, ?_⟩
        · rw [List.map_append]
          exact (dwA.kp kE).append (dl.kp (Kp.put (by simp)))
        · intro p hp
          (rcases List.mem_append.mp hp with z | z)
          · exact okp p (List.mem_append_left _ z)
          · exact pbs_ok hc1 hn1 p z
        · rw [hiv', hh, List.all_append, Bool.true_and]
        · rw [wz_app, mz]
          omega
        · rw [wz_app]
          omega
      · have hf : hasF k1 d1 = false := Bool.eq_false_iff.mpr hh
        refine ifT (by rw [hf]; rfl) ?_
        have q' := q H2 ((kp.trans (kA.trans (Kp.same s2))).thin WH).toSame
        rw [hiv', hf, Bool.false_and, Bool.and_false] at q'
        exact q'
abbrev nIv : List Str := ["kind", "value"]
theorem scIv : FnScope nIv ["kind", "value"] (defScope (top 18)) := ⟨rfl, rfl, rfl, by decide +kernel, rfl, by decide +kernel, by decide +kernel⟩
theorem ok_iv {f : Addr} {fd : FuncData} (F : FnP K "is_value" (top 18) f fd) (hC : Has P w K mg base "_check_kind" ["kind"] 6 spCk) (hS : Has P w K mg base "_stands_under" ["kind", "value"] 3 spSu) : FnOk P w K mg base CX0 7 f fd ["kind", "value"] spIv := by
  obtain ⟨fC, fdC, kC, gC, bC, GC⟩ := hC
  obtain ⟨fS, fdS, kS, gS, bS, GS⟩ := hS
  refine F.ok scIv (fun vs H Q E h => ?_) (fun cdv A outer s H vs Q E hr h => ?_)
  · obtain ⟨F, kv, v, k, d, rfl, _⟩ := h
    rfl
  · obtain ⟨Fa, kv, v, k, d, rfl, hk, hcl, hnf, hdp, hkz, hd, hsz, q⟩ := h
    have sc := scIv
    have hrC : Room 6 _ := hr
    have hrS : Room 3 _ := hr.mono (by omega)
    refine ⟨_, PSs.nox (pss_cons (ps_expr (pe_call GC hrC rfl gC kC bC .nil pass0 (pa_cons (pv 0) pa_nil))) (pss_one (ps_ret (pe_call GS hrS rfl gS kS bS .nil pass0 (pa_cons (pv 0) (pa_cons (pv 1) pa_nil)))))), ?_⟩
    refine ⟨_, rfl, Fa, kv, k, rfl, hk, hcl, hnf, hdp, hkz, fun H1 s1 => ?_⟩
    exact ⟨_, rfl, _, rfl, Fa, kv, v, k, d, rfl, hk.keep s1, hcl, hnf, hd.keep s1, hsz, fun H2 s2 => q H2 (s1.trans s2)⟩
end
end V3
namespace N3
open PySem PySem.Spec PyProof.Rows L2 KB
section
variable {K : PySem.W.Frag} {mg : Str → Option Value} {base : Heap} {P : Program} {w : World}
def spPk : Sp := fun vs H Q _ => ∃ (F : Addr → Prop) (v : V) (k : Kd), vs = [v] ∧ Dt F H v k.d ∧ k.okv = true ∧ k.dep ≤ 100 ∧ sz k.d ≤ 4000000 ∧
  ∀ (G : Addr) (gs : List V) (ks : List PyData) (H' : Hp), Same H H' → H' G = some (.lst gs) → DtA (Ot []) H' gs ks → ks.Perm ((k.lvs 1).map fun p => p.1.d) → ks.length ≤ 4000000 → Q (.ref G) H'
abbrev nPk : List Str := ["kind", "part", "level"]
theorem scPk : FnScope nPk ["kind"] (defScope (top 10)) := ⟨rfl, rfl, rfl, by decide +kernel, rfl, by decide +kernel, by decide +kernel⟩
theorem ok_pk {f : Addr} {fd : FuncData} (F : FnP K "parts_of_kind" (top 10) f fd) (hP : Has P w K mg base "_told_parts" ["kind"] 4 spTp) : FnOk P w K mg base CX0 5 f fd ["kind"] spPk := by
  obtain ⟨fP, fdP, kP, gP, bP, GP⟩ := hP
  refine F.ok scPk (fun vs H Q E h => ?_) (fun cdv A outer s H vs Q E hr h => ?_)
  · obtain ⟨F, v, k, rfl, _⟩ := h
    rfl
  · obtain ⟨Fa, v, k, rfl, hd, ov, dp, hsz, q⟩ := h
    have sc := scPk
    have hrP : Room 4 _ := hr
    refine ⟨_, PSs.nox (pss_one (ps_ret (pe_lc (own := [("part", 1), ("level", 2)]) (tt := tYes) (by rfl) sc.nd (pi_list (pe_call GP hrP rfl gP kP bP .nil pass0 (pa_cons (pv 0) pa_nil))) (blkOk_by (own := [("part", 1), ("level", 2)]) (N := nPk) (sc := (defScope (top 10))) (by decide +kernel)) (fun _ _ _ _ _ => (pgT (K := K) (n := 2) rfl rfl (pgs_cons (pg_name (i := 1) sc.nd rfl (Or.inl rfl)) (pgs_cons (pg_name (i := 2) sc.nd rfl (Or.inl rfl)) pgs_nil)))) (fun _ _ _ _ _ => pts_nil) (fun _ _ _ _ _ => (pv 1))))), ?_⟩
    refine ⟨_, rfl, Fa, v, k, rfl, hd, ov, dp, hsz, fun G gs qs H1 s1 hG dg perm cnt => ?_⟩
    have lg := dg.length
    rw [List.length_map] at lg
    refine ⟨G, rfl, ⟨_, SqL.of hG⟩, fun D nD => lc_list (K := K) (a := G) (xs := gs) (fun i H2 => Same H1 H2 ∧ ∃ vs, H2 D = some (.lst vs) ∧ DtA (Ot []) H1 vs ((qs.take i).map Prod.fst)) ⟨Same.new nD, [], upd_same, DtA.nil⟩ (fun i H2 _ hP => SqL.of (hP.1 G _ hG)) ?_ ?_⟩
    · rintro i e H2 hi ⟨sm, vs, hD, dvs⟩
      obtain ⟨de, hde, dte⟩ := dg.get hi
      have il : i < gs.length := (List.getElem?_eq_some_iff.mp hi).1
      obtain ⟨p1, hk1, rfl⟩ : ∃ p, qs[i]? = some p ∧ pvL p = de := by
        rw [List.getElem?_map] at hde
        cases e : qs[i]? with
        | none => rw [e] at hde; cases hde
        | some k2 => rw [e] at hde; exact ⟨k2, rfl, Option.some.inj hde⟩
      obtain ⟨t, xs, rfl, ft, ht, rt⟩ := dte.tupI
      obtain ⟨kv, lv1, rfl, dk, dl⟩ := rt.two
      have lv := dvs.length
      rw [List.length_map, List.length_take] at lv
      refine ⟨t, _, rfl, SqT.of (sm t _ ht), rfl, _, _, rfl, _, _, rfl, rfl, rfl, ?_⟩
      refine iteT (B := Same H1 H2 ∧ ∃ vs, H2 D = some (.lst vs) ∧ DtA (Ot []) H1 vs ((qs.take (i + 1)).map Prod.fst)) ?_
      refine ⟨_, rfl, _, hD, Nat.lt_of_le_of_lt (by omega : _ ≤ 4000000) (by decide), fun b o e2 => ?_, _, upd_same, ?_⟩
      · rw [upd_ne (ne_of_none e2 nD)]
        exact sm b o e2
      · rw [List.take_add_one, hk1, List.map_append]
        exact dvs.append (.cons dk .nil)
    · rintro H2 ⟨sm, vs, hD, dvs⟩
      rw [lg, List.take_length] at dvs
      refine q D vs _ H2 (s1.trans sm) hD (dvs.keep sm) ?_ (by rw [List.length_map]; exact cnt)
      have pm := perm.map Prod.fst
      rw [List.map_map] at pm
      exact pm
abbrev nVo : List Str := ["kind", "part"]
end
end N3
namespace KB
open PySem L2 PySem.Spec PyProof.Rows
def tlS (x : Str) : List Nat := x.cps.toList
theorem str_ext {a b : Str} (h : tlS a = tlS b) : a = b := by
  cases a with | mk x => cases b with | mk y => exact congrArg Str.mk (Array.toList_inj.mp h)
theorem tlS_app (a b : Str) : tlS (a ++ b) = tlS a ++ tlS b := Array.toList_append
theorem tlS_len (a : Str) : a.length = (tlS a).length := Array.length_toList.symm
theorem app_assoc (a b c : Str) : a ++ b ++ c = a ++ (b ++ c) := str_ext (by rw [tlS_app, tlS_app, tlS_app, tlS_app, List.append_assoc])
theorem app_nil (a : Str) : a ++ ("" : Str) = a := str_ext (by rw [tlS_app]; exact List.append_nil _)
theorem nil_app (a : Str) : ("" : Str) ++ a = a := str_ext (by rw [tlS_app]; rfl)
theorem app_len (a b : Str) : (a ++ b).length = a.length + b.length := by rw [tlS_len, tlS_len, tlS_len, tlS_app, List.length_append]
def cat : List Str → Str
  | [] => ""
  | x :: xs => x ++ cat xs
theorem cat_app : ∀ a b : List Str, cat (a ++ b) = cat a ++ cat b
  | [], b => (nil_app _).symm
  | x :: a, b => by rw [List.cons_append, cat, cat, cat_app a b, app_assoc]
theorem cat_len : ∀ a : List Str, (cat a).length = (a.map (·.length)).sum
  | [] => rfl
  | x :: a => by rw [cat, app_len, cat_len a, List.map_cons, List.sum_cons]
theorem join_cat (xs : List Str) : Txt.join "" xs = cat xs := by
  rw [TL.join_eq]
  refine str_ext ?_
  show TL.tl (Str.join "" xs) = _
  rw [TL.tl_join]
  have e : TL.tl ("" : Str) = [] := rfl
  rw [e]
  have h : ∀ xs : List Str, TL.joinL [] (xs.map TL.tl) = tlS (cat xs) := fun xs => by
    induction xs with
    | nil => rfl
    | cons x xs ih =>
      cases xs with
      | nil => show TL.tl x = tlS (x ++ ("" : Str)); rw [app_nil]; rfl
      | cons y ys =>
        show TL.tl x ++ ([] ++ TL.joinL [] (TL.tl y :: ys.map TL.tl)) = tlS (x ++ cat (y :: ys))
        rw [tlS_app, ← ih]
        rfl
  exact h xs
def ring (b : Bool) (x : Str) : Str := if b then "(" ++ x ++ ")" else x
def Kd.isFn : Kd → Bool
  | fn _ _ => true
  | _ => false
def Kd.isFE : Kd → Bool
  | fn _ _ => true
  | eith _ _ => true
  | _ => false
def kT : Kd → Str
  | .num => "num"
  | .unit => "unit"
  | .var x => x
  | .lst a => "list " ++ ring a.isFE (kT a)
  | .pair a b => "(" ++ kT a ++ ", " ++ kT b ++ ")"
  | .fn a b => ring a.isFn (kT a) ++ " -> " ++ kT b
  | .eith a b => ring a.isFn (kT a) ++ " | " ++ ring b.isFE (kT b)
end KB
namespace KB
open PySem L2 PySem.Spec PyProof.Rows
theorem fm_list : mergeK (mergeK (mergeK [] fm1) (mergeK [] fm2)) (mergeK [] fm3) = tab.map fun p => ((.inr p.1 : L2.Key), V.str (frS p.2)) := by decide +kernel
theorem fm_val (w : Str) : valV (mergeK (mergeK (mergeK [] fm1) (mergeK [] fm2)) (mergeK [] fm3)) (.inr w) = (srt w).map fun ss => V.str (frS ss) := by
  rw [fm_list]
  unfold valV srt
  rw [List.find?_map]
  have e : ((fun kv : L2.Key × V => decide (kv.1 = .inr w)) ∘ fun p : Str × List So => ((.inr p.1 : L2.Key), V.str (frS p.2))) = fun p => decide (p.1 = w) := by
    funext p
    by_cases z : p.1 = w
    · simp [z]
    · simp [z]
  rw [e]
  cases h : tab.find? fun p => decide (p.1 = w) with
  | none => rfl
  | some p => rfl
def frV (w : Str) : V := ((srt w).map fun ss => V.str (frS ss)).getD .non
def spFrmG : Sp := fun vs H Q _ => ∃ w : Str, vs = [.str w] ∧ ∀ H', Same H H' → Q (frV w) H'
mutual
def wq (D N : Nat) : PyData → Nat → Option (List Nat)
  | .tuple (x :: ds), k => if D ≤ k then some [] else if hfT (.tuple (x :: ds)) then wqA D N (sD (.tuple (x :: ds))) ds k 1 else some []
  | _, _ => some []
def wqA (D N : Nat) : List So → List PyData → Nat → Nat → Option (List Nat)
  | s :: ss, d :: ds, k, i => (if s = .t then (wq D N d (k + 1)).map (i :: ·) else if okS N s d then none else some [i]).or (wqA D N ss ds k (i + 1))
  | [], _, _, _ => none
  | _ :: _, [], _, _ => none
end
mutual
theorem wp_wq (D N : Nat) : ∀ (d : PyData) (p : List Nat), wp D N d p = (wq D N d p.length).map (p ++ ·)
  | .tuple (x :: ds), p => by
    rw [wp, wq]
    by_cases h1 : D ≤ p.length
    · rw [if_pos h1, if_pos h1]; show some p = some (p ++ []); rw [List.append_nil]
    · rw [if_neg h1, if_neg h1]
      cases h2 : hfT (.tuple (x :: ds)) with
      | true => rw [if_pos rfl, if_pos rfl]; exact wpA_wqA D N _ ds p 1
      | false => rw [if_neg Bool.false_ne_true, if_neg Bool.false_ne_true]; show some p = some (p ++ []); rw [List.append_nil]
  | .tuple [], p => by
    rw [wp, wq]
    · show some p = some (p ++ []); rw [List.append_nil]
    all_goals (intros; rename_i z; cases z)
  | .none, p => by
    rw [wp, wq]
    · show some p = some (p ++ []); rw [List.append_nil]
    all_goals (intros; rename_i z; cases z)
  | .bool _, p => by
    rw [wp, wq]
    · show some p = some (p ++ []); rw [List.append_nil]
    all_goals (intros; rename_i z; cases z)
  | .int _, p => by
    rw [wp, wq]
    · show some p = some (p ++ []); rw [List.append_nil]
    all_goals (intros; rename_i z; cases z)
  | .str _, p => by
    rw [wp, wq]
    · show some p = some (p ++ []); rw [List.append_nil]
    all_goals (intros; rename_i z; cases z)
  | .list _, p => by
    rw [wp, wq]
    · show some p = some (p ++ []); rw [List.append_nil]
    all_goals (intros; rename_i z; cases z)
  | .dict _, p => by
    rw [wp, wq]
    · show some p = some (p ++ []); rw [List.append_nil]
    all_goals (intros; rename_i z; cases z)
theorem wpA_wqA (D N : Nat) : ∀ (ss : List So) (ds : List PyData) (p : List Nat) (i : Nat), wpA D N ss ds p i = (wqA D N ss ds p.length i).map (p ++ ·)
  | ss, d :: ds, p, i => by
    cases ss with
    | nil => rw [wpA, wqA]; rfl
    | cons s ss =>
      rw [wpA, wqA, wpA_wqA D N ss ds p (i + 1)]
      by_cases h : s = .t
      · rw [if_pos h, if_pos h, wp_wq D N d (p ++ [i]), List.length_append]
        show _ = (((wq D N d (p.length + 1)).map (i :: ·)).or _).map (p ++ ·)
        cases wq D N d (p.length + 1) with
        | none => rfl
        | some q => show some (p ++ [i] ++ q) = some (p ++ (i :: q)); rw [List.append_assoc]; rfl
      · rw [if_neg h, if_neg h]
        cases okS N s d with
        | true => rfl
        | false => rfl
  | ss, [], p, i => by
    cases ss with
    | nil => rw [wpA, wqA]; rfl
    | cons s ss => rw [wpA, wqA]; rfl
end
theorem wp_top (D N : Nat) (d : PyData) : wp D N d [] = wq D N d 0 := by
  rw [wp_wq]
  cases wq D N d ([] : List Nat).length with
  | none => rfl
  | some q => rfl
theorem wq_step (D N : Nat) (d : PyData) (k : Nat) : wq D N d k = if D ≤ k ∨ hfT d = false then some [] else wqA D N (sD d) (tD d) k 1 := by
  match d with
  | .tuple (x :: ds) =>
    rw [wq]
    by_cases h1 : D ≤ k
    · rw [if_pos h1, if_pos (Or.inl h1)]
    · rw [if_neg h1]
      cases h2 : hfT (.tuple (x :: ds)) with
      | true => rw [if_pos rfl, if_neg (by simp [h1])]; rfl
      | false => rw [if_neg Bool.false_ne_true, if_pos (Or.inr rfl)]
  | .tuple [] =>
    refine Eq.trans ?_ (if_pos (Or.inr rfl)).symm
    rw [wq]
    all_goals (intros; rename_i z; cases z)
  | .none =>
    refine Eq.trans ?_ (if_pos (Or.inr rfl)).symm
    rw [wq]
    all_goals (intros; rename_i z; cases z)
  | .bool _ =>
    refine Eq.trans ?_ (if_pos (Or.inr rfl)).symm
    rw [wq]
    all_goals (intros; rename_i z; cases z)
  | .int _ =>
    refine Eq.trans ?_ (if_pos (Or.inr rfl)).symm
    rw [wq]
    all_goals (intros; rename_i z; cases z)
  | .str _ =>
    refine Eq.trans ?_ (if_pos (Or.inr rfl)).symm
    rw [wq]
    all_goals (intros; rename_i z; cases z)
  | .list _ =>
    refine Eq.trans ?_ (if_pos (Or.inr rfl)).symm
    rw [wq]
    all_goals (intros; rename_i z; cases z)
  | .dict _ =>
    refine Eq.trans ?_ (if_pos (Or.inr rfl)).symm
    rw [wq]
    all_goals (intros; rename_i z; cases z)
def opD (o : Option (List Nat)) : List PyData := match o with
  | none => []
  | some p => [.tuple (p.map fun n => .int (n : Nat))]
def spHdT : Sp := fun vs H Q _ => ∃ (F : Addr → Prop) (v : V) (d : PyData), vs = [v] ∧ Dt F H v d ∧ ∀ H', Same H H' → Q (.bl (hfT d)) H'
def spEl : Sp := fun vs H Q _ => ∃ (F : Addr → Prop) (s : So) (v : V) (d : PyData) (n : Nat), vs = [.str s.let_, v, .int n] ∧ s ≠ .t ∧ Dt F H v d ∧ sz d ≤ 4000000 ∧ d.depth ≤ 170 ∧ txOk d = true ∧ n ≤ 100 ∧ ∀ H', Same H H' → Q (.bl (okS n s d)) H'
def spWr (m : Nat) : Sp := fun vs H Q _ => ∃ (F : Addr → Prop) (v : V) (d : PyData) (k D N : Nat), vs = [v, .int (k + 1 : Nat), .int D, .int N] ∧ Dt F H v d ∧ sz d ≤ 4000000 ∧ d.depth ≤ 170 ∧ txOk d = true ∧ N ≤ 100 ∧ D ≤ 100 ∧ k ≤ D ∧ D ≤ k + m ∧
  ∀ (L : Addr) (xs : List V) (H' : Hp), Same H H' → H L = none → H' L = some (.lst xs) → DtA (Ot []) H' xs (opD (wq D N d k)) → Q (.ref L) H'
theorem let_t (s : So) : decide (V.str s.let_ = V.str "t") = decide (s = .t) := by cases s <;> decide +kernel
theorem let_n (s : So) : decide (V.str s.let_ = V.str "n") = decide (s = .n) := by cases s <;> decide +kernel
theorem let_s (s : So) : decide (V.str s.let_ = V.str "s") = decide (s = .s) := by cases s <;> decide +kernel
theorem let_i (s : So) : decide (V.str s.let_ = V.str "i") = decide (s = .i) := by cases s <;> decide +kernel
end KB
namespace KB
open PySem L2 PySem.Spec PyProof.Rows
structure Tx (n : Nat) (x : Str) : Prop where
  ok : PyData.strOk x = true
  ln : x.length ≤ n
theorem Tx.mono {n m : Nat} {x : Str} (h : Tx n x) (a : n ≤ m) : Tx m x := ⟨h.ok, Nat.le_trans h.ln a⟩
theorem strOk_iff {x : Str} : PyData.strOk x = true ↔ ∀ c ∈ x.cps.toList, c < 1114112 := by
  unfold PyData.strOk
  rw [Array.all_eq_true']
  simp only [decide_eq_true_eq, Array.mem_toList_iff]
theorem tx_app {n m : Nat} {x y : Str} (h : Tx n x) (k : Tx m y) : Tx (n + m) (x ++ y) := by
  have e : (x ++ y).cps.toList = x.cps.toList ++ y.cps.toList := tlS_app x y
  refine ⟨strOk_iff.mpr fun c hc => ?_, ?_⟩
  · rw [e] at hc
    exact (List.mem_append.mp hc).elim (strOk_iff.mp h.ok c) (strOk_iff.mp k.ok c)
  · have h1 : (x ++ y).length = x.length + y.length := by
      show (x ++ y).cps.size = x.cps.size + y.cps.size
      rw [← Array.length_toList, e, List.length_append, Array.length_toList, Array.length_toList]
    have := h.ln
    have := k.ln
    omega
theorem tx_sz {n : Nat} {x : Str} (h : Tx n x) : sz (.str x) ≤ 10 * n + 2 := by
  rw [sz, PyData.shown_str]
  have := PySem.StrLaws.reprText_len x fun c hc => Nat.lt_trans (strOk_iff.mp h.ok c (by simpa using hc)) (by decide)
  have := h.ln
  omega
mutual
def noL : PyData → Bool
  | .tuple ds => noLA ds
  | .list _ => false
  | .dict _ => false
  | _ => true
def noLA : List PyData → Bool
  | [] => true
  | d :: ds => noL d && noLA ds
end
theorem noLA_iff : ∀ {ds : List PyData}, noLA ds = true ↔ ∀ d ∈ ds, noL d = true
  | [] => by simp [noLA]
  | d :: ds => by rw [noLA, Bool.and_eq_true, noLA_iff (ds := ds), List.forall_mem_cons]
theorem nl_tup {ds : List PyData} : noL (.tuple ds) = true ↔ ∀ d ∈ ds, noL d = true := by
  rw [noL]
  exact noLA_iff
mutual
theorem nl_off {F : Addr → Prop} {H : Hp} {L : Addr} {ys : List V} (hL : H L = some (.lst ys)) : ∀ {v : V} {d : PyData}, noL d = true → Dt F H v d → Dt (fun a => F a ∧ a ≠ L) H v d
  | _, _, _, .non => .non
  | _, _, _, .bl b => .bl b
  | _, _, _, .int i => .int i
  | _, _, _, .str x => .str x
  | _, .tuple ds, h, .tup f e r => .tup ⟨f, fun z => by rw [z, hL] at e; cases e⟩ e (nl_offA hL (show noLA ds = true by rw [noL] at h; exact h) r)
  | _, _, h, .lst _ _ _ => by simp [noL] at h
  | _, _, h, .emp _ _ => by simp [noL] at h
theorem nl_offA {F : Addr → Prop} {H : Hp} {L : Addr} {ys : List V} (hL : H L = some (.lst ys)) : ∀ {vs : List V} {ds : List PyData}, noLA ds = true → DtA F H vs ds → DtA (fun a => F a ∧ a ≠ L) H vs ds
  | _, _, _, .nil => .nil
  | _, _, h, .cons a r => by
    obtain ⟨h1, h2⟩ := Bool.and_eq_true_iff.mp (by rw [noLA] at h; exact h)
    exact .cons (nl_off hL h1 a) (nl_offA hL h2 r)
end
structure Tq (n Z : Nat) (d : PyData) : Prop where
  sh : d.showable = true
  dp : d.depth ≤ n
  ln : sz d ≤ Z
  ib : IB bg d
  tx : txOk d = true
  nl : noL d = true
structure TqA (n Z : Nat) (ds : List PyData) : Prop where
  sh : ∀ d ∈ ds, d.showable = true
  dp : ∀ d ∈ ds, d.depth ≤ n
  ln : szA ds ≤ Z
  ib : ∀ d ∈ ds, IB bg d
  tx : ∀ d ∈ ds, txOk d = true
  nl : ∀ d ∈ ds, noL d = true
theorem Tq.mono {n Z m Y : Nat} {d : PyData} (h : Tq n Z d) (a : n ≤ m) (b : Z ≤ Y) : Tq m Y d := ⟨h.sh, Nat.le_trans h.dp a, Nat.le_trans h.ln b, h.ib, h.tx, h.nl⟩
theorem TqA.mono {n Z m Y : Nat} {d : List PyData} (h : TqA n Z d) (a : n ≤ m) (b : Z ≤ Y) : TqA m Y d := ⟨h.sh, fun d m => Nat.le_trans (h.dp d m) a, Nat.le_trans h.ln b, h.ib, h.tx, h.nl⟩
theorem tqa_nil {n : Nat} : TqA n 0 [] := ⟨nofun, nofun, Nat.le_refl _, nofun, nofun, nofun⟩
theorem tqa_cons {n Z Y : Nat} {d : PyData} {ds : List PyData} (h : Tq n Z d) (r : TqA n Y ds) : TqA n (Z + 2 + Y) (d :: ds) := by
  refine ⟨?_, ?_, ?_, ?_, ?_, List.forall_mem_cons.mpr ⟨h.nl, r.nl⟩⟩
  · exact List.forall_mem_cons.mpr ⟨h.sh, r.sh⟩
  · exact List.forall_mem_cons.mpr ⟨h.dp, r.dp⟩
  · have := h.ln
    have := r.ln
    rw [szA]
    omega
  · exact List.forall_mem_cons.mpr ⟨h.ib, r.ib⟩
  · exact List.forall_mem_cons.mpr ⟨h.tx, r.tx⟩
theorem tqa_snoc {n Z Y : Nat} {d : PyData} {ds : List PyData} (r : TqA n Y ds) (h : Tq n Z d) : TqA n (Y + (Z + 2)) (ds ++ [d]) := by
  have cas : ∀ x ∈ ds ++ [d], x ∈ ds ∨ x = d := fun x hx => by
    (rcases (List.mem_append.mp hx) with hx | hx)
    · exact .inl hx
    · exact .inr (List.mem_singleton.mp hx)
  refine ⟨fun x hx => ?_, fun x hx => ?_, ?_, fun x hx => ?_, fun x hx => ?_, fun x hx => (cas x hx).elim (r.nl x) fun z => by rw [z]; exact h.nl⟩
  · exact (cas x hx).elim (r.sh x) fun z => by rw [z]; exact h.sh
  · exact (cas x hx).elim (r.dp x) fun z => by rw [z]; exact h.dp
  · have := h.ln
    have := r.ln
    rw [szA_app, szA_one]
    omega
  · exact (cas x hx).elim (r.ib x) fun z => by rw [z]; exact h.ib
  · exact (cas x hx).elim (r.tx x) fun z => by rw [z]; exact h.tx
theorem tq_tup {n Z : Nat} {ds : List PyData} (h : TqA n Z ds) : Tq (n + 1) (Z + 3) (.tuple ds) := by
  refine ⟨sh_tup.mpr h.sh, dp_tup h.dp, ?_, ib_tup.mpr h.ib, tx_tup.mpr h.tx, nl_tup.mpr h.nl⟩
  have := h.ln
  rw [sz_tup]
  omega
theorem tq_str {n : Nat} {x : Str} (h : Tx n x) (m : Nat) : Tq m (10 * n + 2) (.str x) := ⟨by simp only [PyData.showable], by simp only [PyData.depth]; omega, tx_sz h, by rw [IB]; exact True.intro, h.ok, rfl⟩
theorem tq_int {i : Int} (h : i.natAbs ≤ bg) (m : Nat) : Tq m 412 (.int i) := ⟨int_shows (c := 0) (by decide) h, by simp only [PyData.depth]; omega, int_long (c := 0) (by decide) h, by rw [IB]; exact h, rfl, rfl⟩
theorem Tq.bt {n Z : Nat} {d e : PyData} {B : Nat} (h : Tq n Z d) (b : Bt B d e) : e.showable = true ∧ e.depth ≤ n + 4 ∧ sz e ≤ 2 * Z + 500 ∧ IB (B + 1) e ∧ txOk e = true := by
  have h1 := h.dp
  have h2 := h.ln
  have h3 := b.dp
  have h4 := b.ln
  exact ⟨b.sh, by omega, by omega, b.ib, b.tx h.tx⟩
def spPickS : Sp := fun vs H Q _ => ∃ (w : Addr) (z : Str) (c : Int), vs = [.ref w, .str z] ∧ Wl H w c ∧ c < 2 ^ 60 ∧ 0 < z.length ∧ z.length ≤ 1000 ∧
  ∀ (k : Nat) (c' : Int) (H' : Hp), k ∈ z.cps.toList → Kw w H H' → Wl H' w c' → c' ≤ c + 1 → Q (.str ⟨#[k]⟩) H'
def spNames : Sp := fun vs H Q _ => ∃ (w : Addr) (c : Int), vs = [.ref w] ∧ Wl H w c ∧ c + 20 < 2 ^ 60 ∧
  ∀ (L : Addr) (ts : List Str) (c' : Int) (H' : Hp), L ≠ w → H' L = some (.lst (ts.map V.str)) → H L = none → (∀ t ∈ ts, Tx 13 t) → ts.length = 4 → Kw w H H' → Wl H' w c' → c' ≤ c + 5 → Q (.ref L) H'
theorem tx_one {z : Str} {k : Nat} (hz : PyData.strOk z = true) (h : k ∈ z.cps.toList) : Tx 1 ⟨#[k]⟩ := by
  refine ⟨strOk_iff.mpr fun c hc => ?_, Nat.le_refl 1⟩
  rw [List.mem_singleton.mp hc]
  exact strOk_iff.mp hz k h
theorem tx_cut {n m : Nat} {x : Str} (h : Tx n x) (hi : Int) (hm : ∀ l : Nat, l ≤ n → HT.sIx l l (some hi) ≤ m) : Tx m (cutS x none (some hi)) := by
  refine ⟨strOk_iff.mpr fun c hc => ?_, ?_⟩
  · exact strOk_iff.mp h.ok c (List.mem_of_mem_drop (List.mem_of_mem_take (by simpa [cutS] using hc)))
  · show (cutS x none (some hi)).cps.size ≤ m
    unfold cutS
    rw [← Array.length_toList, List.toList_toArray, List.length_take]
    have := hm x.length h.ln
    omega
end KB
namespace KB
open PySem L2 PySem.Spec PyProof.Rows
structure NH (w L : Addr) (ts : List Str) (H : Hp) : Prop where
  ne : L ≠ w
  at_ : H L = some (.lst (ts.map V.str))
  lo : 3 ≤ ts.length
  hi : ts.length ≤ 10
  ok : ∀ t ∈ ts, Tx 13 t
theorem NH.kw {w L : Addr} {ts : List Str} {H H' : Hp} (h : NH w L ts H) (k : Kw w H H') : NH w L ts H' := ⟨h.ne, k _ _ h.ne h.at_, h.lo, h.hi, h.ok⟩
def spPickL (K : PySem.W.Frag) : Sp := fun vs H Q _ => ∃ (w t : Addr) (xs : List V) (c : Int), vs = [.ref w, .ref t] ∧ Wl H w c ∧ c < 2 ^ 60 ∧ t ≠ w ∧ H t = some (.lst xs) ∧ 0 < xs.length ∧ xs.length ≤ 1000 ∧
  ∀ (i : Nat) (v : V) (c' : Int) (H' : Hp), xs[i]? = some v → Kw w H H' → Wl H' w c' → c' ≤ c + 1 → Q v H'
theorem tx_kd : ∀ k : Kd, k.okv = true → txOk k.d = true
  | .num, _ => by decide +kernel
  | .unit, _ => by decide +kernel
  | .var x, h => by
    rcases abc_mem h with e | e | e
    · rw [e]; decide +kernel
    · rw [e]; decide +kernel
    · rw [e]; decide +kernel
  | .lst a, h => tx_tup.mpr (List.forall_mem_cons.mpr ⟨by decide +kernel, List.forall_mem_cons.mpr ⟨tx_kd a h, nofun⟩⟩)
  | .pair a b, h => by
    obtain ⟨h1, h2⟩ := Bool.and_eq_true_iff.mp (show (a.okv && b.okv) = true from h)
    exact tx_tup.mpr (List.forall_mem_cons.mpr ⟨by decide +kernel, List.forall_mem_cons.mpr ⟨tx_kd a h1, List.forall_mem_cons.mpr ⟨tx_kd b h2, nofun⟩⟩⟩)
  | .eith a b, h => by
    obtain ⟨h1, h2⟩ := Bool.and_eq_true_iff.mp (show (a.okv && b.okv) = true from h)
    exact tx_tup.mpr (List.forall_mem_cons.mpr ⟨by decide +kernel, List.forall_mem_cons.mpr ⟨tx_kd a h1, List.forall_mem_cons.mpr ⟨tx_kd b h2, nofun⟩⟩⟩)
  | .fn a b, h => by
    obtain ⟨h1, h2⟩ := Bool.and_eq_true_iff.mp (show (a.okv && b.okv) = true from h)
    exact tx_tup.mpr (List.forall_mem_cons.mpr ⟨by decide +kernel, List.forall_mem_cons.mpr ⟨tx_kd a h1, List.forall_mem_cons.mpr ⟨tx_kd b h2, nofun⟩⟩⟩)
theorem nl_kd : ∀ k : Kd, noL k.d = true
  | .num => rfl
  | .unit => rfl
  | .var x => rfl
  | .lst a => nl_tup.mpr (List.forall_mem_cons.mpr ⟨rfl, List.forall_mem_cons.mpr ⟨nl_kd a, nofun⟩⟩)
  | .pair a b => nl_tup.mpr (List.forall_mem_cons.mpr ⟨rfl, List.forall_mem_cons.mpr ⟨nl_kd a, List.forall_mem_cons.mpr ⟨nl_kd b, nofun⟩⟩⟩)
  | .eith a b => nl_tup.mpr (List.forall_mem_cons.mpr ⟨rfl, List.forall_mem_cons.mpr ⟨nl_kd a, List.forall_mem_cons.mpr ⟨nl_kd b, nofun⟩⟩⟩)
  | .fn a b => nl_tup.mpr (List.forall_mem_cons.mpr ⟨rfl, List.forall_mem_cons.mpr ⟨nl_kd a, List.forall_mem_cons.mpr ⟨nl_kd b, nofun⟩⟩⟩)
theorem Kg.tq {D Z : Nat} {k : Kd} (h : Kg D Z k) : Tq D (25 * Z) k.d :=
  ⟨kd_show k h.ov, by rw [Kd.depth]; exact h.dp, Nat.le_trans (sz_kz k h.ov) (Nat.mul_le_mul_left _ h.kz), ib_kd k, tx_kd k h.ov, nl_kd k⟩
structure Rs (r s t : Nat) (d : PyData) : Prop where
  v : S0 r d
  v1 : S1 s d
  v2 : S2 t d
theorem Rs.mono {r s t r' s' t' : Nat} {d : PyData} (h : Rs r s t d) (a : r ≤ r') (b : s ≤ s') (c : t ≤ t') : Rs r' s' t' d := ⟨h.v.mono a, h.v1.mono b, h.v2.mono c⟩
theorem cnt_srt {w : Str} {ss : List So} {i : Nat} (h : srt w = some ss) (c : cnt w i) : ss[i]? = some So.t := by
  have a : (tab.all fun p => (List.range 6).all fun i => decide ((cntL p.1)[i]? ≠ some true) || decide (p.2[i]? = some So.t)) = true := by decide +kernel
  have l : (tab.all fun p => decide ((cntL p.1).length ≤ 6)) = true := by decide +kernel
  have l1 := of_decide_eq_true (srt_all l h)
  have il : i < 6 := by
    have : i < (cntL w).length := (List.getElem?_eq_some_iff.mp c).1
    exact Nat.lt_of_lt_of_le this l1
  have := List.all_eq_true.mp (srt_all a h) i (List.mem_range.mpr il)
  simp only [Bool.or_eq_true, decide_eq_true_eq] at this
  exact this.resolve_left fun z => z c
theorem cnt_no {w : Str} (h : cntL w = []) (i : Nat) : ¬ cnt w i := fun c => by
  unfold cnt at c
  rw [h] at c
  cases c
theorem dep1 : ∀ k : Kd, 1 ≤ k.dep
  | .num => Nat.le_refl _
  | .unit => Nat.le_refl _
  | .var _ => Nat.le_refl _
  | .lst a => Nat.le_add_left _ _
  | .pair a b => Nat.le_add_left _ _
  | .eith a b => Nat.le_add_left _ _
  | .fn a b => Nat.le_add_left _ _
theorem s0_kd : ∀ k : Kd, S0 (k.dep - 1) k.d
  | .num => s0_node (w := "num") (fun _ => 0) (fun i x hx _ => by cases hx) (fun i c => absurd c (cnt_no (by decide +kernel) i)) (fun _ i j _ c _ => absurd c (cnt_no (by decide +kernel) i))
  | .unit => s0_node (w := "unit") (fun _ => 0) (fun i x hx _ => by cases hx) (fun i c => absurd c (cnt_no (by decide +kernel) i)) (fun _ i j _ c _ => absurd c (cnt_no (by decide +kernel) i))
  | .var x => s0_node (w := "var") (fun _ => 0) (fun i x _ c => absurd c (cnt_no (by decide +kernel) i)) (fun i c => absurd c (cnt_no (by decide +kernel) i)) (fun _ i j _ c _ => absurd c (cnt_no (by decide +kernel) i))
  | .lst a => s0_node (w := "list") (fun _ => 0) (fun i x _ c => absurd c (cnt_no (by decide +kernel) i)) (fun i c => absurd c (cnt_no (by decide +kernel) i)) (fun _ i j _ c _ => absurd c (cnt_no (by decide +kernel) i))
  | .eith a b => s0_node (w := "either") (fun _ => 0) (fun i x _ c => absurd c (cnt_no (by decide +kernel) i)) (fun i c => absurd c (cnt_no (by decide +kernel) i)) (fun _ i j _ c _ => absurd c (cnt_no (by decide +kernel) i))
  | .fn a b => s0_node (w := "fun") (fun _ => 0) (fun i x _ c => absurd c (cnt_no (by decide +kernel) i)) (fun i c => absurd c (cnt_no (by decide +kernel) i)) (fun _ i j _ c _ => absurd c (cnt_no (by decide +kernel) i))
  | .pair a b => s0_pair (s0_kd a) (s0_kd b) (by have := dep1 a; have : (Kd.pair a b).dep = max a.dep b.dep + 1 := rfl; omega) (by have := dep1 b; have : (Kd.pair a b).dep = max a.dep b.dep + 1 := rfl; omega)
where
  s0_pair {x y : PyData} {r q B : Nat} (hx : S0 r x) (hy : S0 q y) (a : 1 + r ≤ B) (b : 1 + q ≤ B) : S0 B (.tuple [.str "pair", x, y]) := fun k hk => by
    cases k with
    | zero => rw [ri_zero]; exact Nat.zero_le _
    | succ k =>
      have h1 := hx k (by omega)
      have h2 := hy k (by omega)
      rw [ri]
      show rowv "pair" [ri k x, ri k y] ≤ B
      have e : rowv "pair" [ri k x, ri k y] = 1 + max (ri k x) (ri k y) := rfl
      rw [e]
      omega
theorem kd_parts : ∀ k : Kd, ∃ w ds, k.d = .tuple (.str w :: ds) ∧ (∀ x ∈ ds, (∃ y, x = .str y) ∨ ∃ j : Kd, x = j.d ∧ j.dep + 1 ≤ k.dep)
  | .num => ⟨_, _, rfl, nofun⟩
  | .unit => ⟨_, _, rfl, nofun⟩
  | .var x => ⟨_, _, rfl, List.forall_mem_cons.mpr ⟨.inl ⟨_, rfl⟩, nofun⟩⟩
  | .lst a => ⟨_, _, rfl, List.forall_mem_cons.mpr ⟨.inr ⟨a, rfl, Nat.le_refl _⟩, nofun⟩⟩
  | .pair a b => ⟨_, _, rfl, List.forall_mem_cons.mpr ⟨.inr ⟨a, rfl, Nat.succ_le_succ (Nat.le_max_left _ _)⟩, List.forall_mem_cons.mpr ⟨.inr ⟨b, rfl, Nat.succ_le_succ (Nat.le_max_right _ _)⟩, nofun⟩⟩⟩
  | .eith a b => ⟨_, _, rfl, List.forall_mem_cons.mpr ⟨.inr ⟨a, rfl, Nat.succ_le_succ (Nat.le_max_left _ _)⟩, List.forall_mem_cons.mpr ⟨.inr ⟨b, rfl, Nat.succ_le_succ (Nat.le_max_right _ _)⟩, nofun⟩⟩⟩
  | .fn a b => ⟨_, _, rfl, List.forall_mem_cons.mpr ⟨.inr ⟨a, rfl, Nat.succ_le_succ (Nat.le_max_left _ _)⟩, List.forall_mem_cons.mpr ⟨.inr ⟨b, rfl, Nat.succ_le_succ (Nat.le_max_right _ _)⟩, nofun⟩⟩⟩
theorem kd_word : ∀ k : Kd, ∀ w ds, k.d = .tuple (.str w :: ds) → w ≠ "let" ∧ w ≠ "case"
  | .num, w, ds, e => by simp only [Kd.d, PyData.tuple.injEq, List.cons.injEq, PyData.str.injEq] at e; rw [← e.1]; decide +kernel
  | .unit, w, ds, e => by simp only [Kd.d, PyData.tuple.injEq, List.cons.injEq, PyData.str.injEq] at e; rw [← e.1]; decide +kernel
  | .var x, w, ds, e => by simp only [Kd.d, PyData.tuple.injEq, List.cons.injEq, PyData.str.injEq] at e; rw [← e.1]; decide +kernel
  | .lst a, w, ds, e => by simp only [Kd.d, PyData.tuple.injEq, List.cons.injEq, PyData.str.injEq] at e; rw [← e.1]; decide +kernel
  | .pair a b, w, ds, e => by simp only [Kd.d, PyData.tuple.injEq, List.cons.injEq, PyData.str.injEq] at e; rw [← e.1]; decide +kernel
  | .eith a b, w, ds, e => by simp only [Kd.d, PyData.tuple.injEq, List.cons.injEq, PyData.str.injEq] at e; rw [← e.1]; decide +kernel
  | .fn a b, w, ds, e => by simp only [Kd.d, PyData.tuple.injEq, List.cons.injEq, PyData.str.injEq] at e; rw [← e.1]; decide +kernel
theorem s1_kd : ∀ (n : Nat) (k : Kd), n ≤ 3 → k.dep ≤ n → S1 n k.d
  | 0, k, _, h => by have := dep1 k; omega
  | n + 1, k, n3, h => by
    obtain ⟨w, ds, ek, hp⟩ := kd_parts k
    obtain ⟨nl, nc⟩ := kd_word k w ds ek
    have m0 : ∀ x ∈ ds, S0 (n - 1) x ∧ S1 n x := fun x hx => by
      rcases hp x hx with ⟨y, rfl⟩ | ⟨j, rfl, hj⟩
      · exact ⟨s0_str _, s1_str _⟩
      · exact ⟨(s0_kd j).mono (by omega), s1_kd n j (by omega) (by omega)⟩
    rw [ek]
    intro e sp
    cases sp with
    | at_ o => exact o.s0 _
    | row q => exact s0_any (m := n - 1) (fun x hx => (q x hx).elim (fun z => (List.mem_cons.mp z).elim (fun z => by rw [z]; exact s0_str _) fun z => (m0 x z).1) fun o => o.s0 _) (by omega) (by omega)
    | lst => exact s0_lst _
    | @path _ i x e hi sp =>
      cases i with
      | zero =>
        rw [List.set_cons_zero]
        exact s0_tail (fun x hx => (m0 x hx).1) (by omega) (by omega)
      | succ i =>
        rw [List.set_cons_succ]
        have hi' : ds[i]? = some x := hi
        have xm := List.mem_of_getElem? hi'
        have il : i < ds.length := (List.getElem?_eq_some_iff.mp hi').1
        exact s0_two nl nc fun y hy => (mem_set_or hy).elim (fun z => (m0 y z).1.mono (by omega)) fun z => by rw [z]; exact (m0 x xm).2 e sp
where
  s0_two {w : Str} {ds : List PyData} {m : Nat} (a : w ≠ "let") (b : w ≠ "case") (h : ∀ x ∈ ds, S0 m x) : S0 (m + 1) (.tuple (.str w :: ds)) :=
    s0_node (fun _ => m) (fun i x hx _ => h x (List.mem_of_getElem? hx)) (fun i _ => by have := rsw_le w; omega) (fun z => absurd z fun z => z.elim a b)
def rT : Nat → Nat
  | 0 => 0
  | n + 1 => max (1 + rT n) (2 * rT n)
def sT : Nat → Nat
  | 0 => 4
  | n + 1 => max (max (1 + sT n) (rT n + sT n)) (max (1 + max (rT n) 2) (2 * max (rT n) 2))
def tT : Nat → Nat
  | 0 => 8
  | n + 1 => max (max (1 + tT n) (rT n + tT n)) (2 * max (sT n) 4)
theorem rst_up (n : Nat) : rT n ≤ rT (n + 1) ∧ sT n ≤ sT (n + 1) ∧ tT n ≤ tT (n + 1) := by
  rw [rT, sT, tT]
  omega
theorem rst_ge : ∀ n : Nat, 4 ≤ sT n ∧ 8 ≤ tT n
  | 0 => ⟨Nat.le_refl _, Nat.le_refl _⟩
  | n + 1 => by
    have := rst_ge n
    have := rst_up n
    omega
theorem rs_le (n : Nat) : rT n ≤ sT n ∧ sT n ≤ tT n := by
  induction n with
  | zero => decide
  | succ n ih =>
    rw [rT, sT, tT]
    omega
theorem Rs.up {n : Nat} {d : PyData} (h : Rs (rT n) (sT n) (tT n) d) : Rs (rT (n + 1)) (sT (n + 1)) (tT (n + 1)) d := h.mono (rst_up n).1 (rst_up n).2.1 (rst_up n).2.2
theorem Rs.any {n : Nat} {d : PyData} (h : Rs 0 4 8 d) : Rs (rT n) (sT n) (tT n) d := h.mono (Nat.zero_le _) (rst_ge n).1 (rst_ge n).2
theorem rs_row {w : Str} {ss : List So} {ds : List PyData} {n : Nat} (hs : srt w = some ss) (h : ∀ (j : Nat) (x : PyData), ds[j]? = some x → (S0 2 x ∧ S1 4 x ∧ ss[j]? ≠ some So.t) ∨ Rs (rT n) (sT n) (tT n) x) : Rs (rT (n + 1)) (sT (n + 1)) (tT (n + 1)) (.tuple (.str w :: ds)) := by
  have cn : ∀ (i : Nat) (x : PyData), ds[i]? = some x → cnt w i → Rs (rT n) (sT n) (tT n) x := fun i x hx hc => (h i x hx).resolve_left fun z => z.2.2 (cnt_srt hs hc)
  have hm : ∀ x ∈ ds, S0 (max (rT n) 2) x ∧ S1 (max (sT n) 4) x := fun x hx => by
    obtain ⟨j, hj, e⟩ := List.getElem_of_mem hx
    rcases h j x (by rw [List.getElem?_eq_getElem hj, e]) with z | z
    · exact ⟨z.1.mono (by omega), z.2.1.mono (by omega)⟩
    · exact ⟨z.v.mono (by omega), z.v1.mono (by omega)⟩
  have rw1 := rsw_le w
  have le := rs_le n
  refine ⟨s0_node (fun _ => rT n) (fun i x hx hc => (cn i x hx hc).v) (fun i _ => ?_) (fun _ i j _ _ _ => ?_), s1_node (M := max (rT n) 2) (fun _ => rT n) (fun _ => sT n) (fun i x hx hc => ⟨(cn i x hx hc).v, (cn i x hx hc).v1⟩) (fun x hx => (hm x hx).1) (fun _ => le.1) (fun i _ => ?_) (fun _ i j _ _ _ => ?_) ?_ ?_,
    s2_node (M := max (rT n) 2) (N := max (sT n) 4) (fun _ => rT n) (fun _ => sT n) (fun _ => tT n) (fun i x hx hc => ⟨(cn i x hx hc).v, (cn i x hx hc).v1, (cn i x hx hc).v2⟩) hm ?_ ?_ (fun _ => le.1) (fun _ => le.2) (fun i _ => ?_) (fun _ i j _ _ _ => ⟨?_, ?_⟩) ?_⟩
  · rw [rT]; omega
  · rw [rT]; omega
  · rw [sT]; omega
  · rw [sT]; omega
  · rw [sT]; omega
  · rw [sT]; omega
  · omega
  · omega
  · rw [tT]; omega
  · rw [tT]; omega
  · rw [tT]; omega
  · rw [tT]; omega
theorem rs_leaf {w : Str} {ds : List PyData} (h0 : cntL w = []) (h : ∀ x ∈ ds, S0 2 x ∧ S1 4 x) : Rs 0 4 8 (.tuple (.str w :: ds)) :=
  ⟨s0_node (fun _ => 0) (fun i x _ c => absurd c (cnt_no h0 i)) (fun i c => absurd c (cnt_no h0 i)) (fun _ i j _ c _ => absurd c (cnt_no h0 i)),
    s1_node (M := 2) (fun _ => 0) (fun _ => 0) (fun i x _ c => absurd c (cnt_no h0 i)) (fun x hx => (h x hx).1) (fun _ => Nat.le_refl _) (fun i c => absurd c (cnt_no h0 i)) (fun _ i j _ c _ => absurd c (cnt_no h0 i)) (by omega) (by omega),
    s2_node (M := 2) (N := 4) (fun _ => 0) (fun _ => 0) (fun _ => 0) (fun i x _ c => absurd c (cnt_no h0 i)) h (by omega) (by omega) (fun _ => Nat.le_refl _) (fun _ => Nat.le_refl _) (fun i c => absurd c (cnt_no h0 i)) (fun _ i j _ c _ => absurd c (cnt_no h0 i)) (by omega)⟩
theorem small_str (x : Str) : S0 2 (.str x) ∧ S1 4 (.str x) := ⟨s0_str _, s1_str _⟩
theorem small_int (i : Int) : S0 2 (.int i) ∧ S1 4 (.int i) := ⟨s0_int _, s1_atom nofun⟩
theorem small_kd {k : Kd} (h : k.dep ≤ 3) : S0 2 k.d ∧ S1 4 k.d := ⟨(s0_kd k).mono (by omega), (s1_kd 3 k (Nat.le_refl _) h).mono (by omega)⟩
structure Rg (r s : Nat) (d : PyData) : Prop where
  v : S0 r d
  v1 : S1 s d
theorem Rg.mono {r s r' s' : Nat} {d : PyData} (h : Rg r s d) (a : r ≤ r') (b : s ≤ s') : Rg r' s' d := ⟨h.v.mono a, h.v1.mono b⟩
theorem Rs.g {r s t : Nat} {d : PyData} (h : Rs r s t d) : Rg r s d := ⟨h.v, h.v1⟩
theorem rg_two {w : Str} {x y : PyData} {r s r' s' : Nat} (h1 : w ≠ "let") (h2 : w ≠ "case") (hx : Rg r s x) (hy : Rg r s y) (a : 1 + r ≤ r') (b : 1 + s ≤ s') (c : 2 * r ≤ s') (d : r ≤ s) : Rg r' s' (.tuple [.str w, x, y]) := by
  have rw1 := rsw_le w
  have nt : ¬ tw w := fun z => z.elim h1 h2
  have at_ : ∀ (i : Nat) (z : PyData), ([x, y] : List PyData)[i]? = some z → Rg r s z := fun i z hz => by
    have := List.mem_of_getElem? hz
    rcases List.mem_cons.mp this with e | e
    · rw [e]; exact hx
    · rw [List.mem_singleton.mp e]; exact hy
  exact ⟨s0_node (fun _ => r) (fun i z hz _ => (at_ i z hz).v) (fun i _ => by omega) (fun z => absurd z nt),
    s1_node (M := r) (fun _ => r) (fun _ => s) (fun i z hz _ => ⟨(at_ i z hz).v, (at_ i z hz).v1⟩) (fun z hz => by
      rcases List.mem_cons.mp hz with e | e
      · rw [e]; exact hx.v
      · rw [List.mem_singleton.mp e]; exact hy.v) (fun _ => d) (fun i _ => by omega) (fun z => absurd z nt) (by omega) (by omega)⟩
theorem rg_name (x : Str) : Rg 0 4 (.tuple [.str "name", .str x]) := (rs_leaf (by decide +kernel) (List.forall_mem_cons.mpr ⟨small_str _, (by intro x hx; cases hx)⟩)).g
theorem rg_unit : Rg 0 4 (.tuple [.str "unit"]) := (rs_leaf (by decide +kernel) (by intro x hx; cases hx)).g
theorem rg_flat {w : Str} {ds : List PyData} (h0 : rsw w = 0) (h : ∀ x ∈ ds, S0 0 x ∧ S1 4 x) : Rg 0 4 (.tuple (.str w :: ds)) :=
  ⟨s0_node (fun _ => 0) (fun i z hz _ => (h z (List.mem_of_getElem? hz)).1) (fun i _ => by omega) (fun _ i j _ _ _ => by omega),
    s1_node (M := 0) (fun _ => 0) (fun _ => 4) (fun i z hz _ => h z (List.mem_of_getElem? hz)) (fun z hz => (h z hz).1) (fun _ => by omega) (fun i _ => by omega) (fun _ i j _ _ _ => by omega) (by omega) (by omega)⟩
theorem rt_one {w : Str} {d : PyData} (h1 : w ≠ "let") (h2 : w ≠ "case") (h0 : rsw w = 0) (h : Rg 0 4 d) : Rg 0 4 (.tuple [.str w, d]) := rg_flat h0 (List.forall_mem_cons.mpr ⟨⟨h.v, h.v1⟩, (by intro x hx; cases hx)⟩)
theorem rt_plus {x : Str} {d : PyData} (h : Rg 0 4 d) : Rg 0 4 (.tuple [.str "plus", .tuple [.str "name", .str x], d]) := rg_flat (by decide +kernel) (List.forall_mem_cons.mpr ⟨⟨(rg_name x).v, (rg_name x).v1⟩, List.forall_mem_cons.mpr ⟨⟨h.v, h.v1⟩, (by intro x hx; cases hx)⟩⟩)
theorem rt_fold {d : PyData} (h : Rg 0 4 d) : Rg 0 4 (.tuple [.str "fold", .tuple [.str "unit"], d, .tuple [.str "unit"]]) := rg_flat (by decide +kernel) (List.forall_mem_cons.mpr ⟨⟨rg_unit.v, rg_unit.v1⟩, List.forall_mem_cons.mpr ⟨⟨h.v, h.v1⟩, List.forall_mem_cons.mpr ⟨⟨rg_unit.v, rg_unit.v1⟩, (by intro x hx; cases hx)⟩⟩⟩)
theorem rt_let {x y : Str} {d : PyData} (h : Rg 0 4 d) : Rg 0 4 (.tuple [.str "let", .str x, d, .tuple [.str "name", .str y]]) := rg_flat (by decide +kernel) (List.forall_mem_cons.mpr ⟨⟨s0_str _, s1_str _⟩, List.forall_mem_cons.mpr ⟨⟨h.v, h.v1⟩, List.forall_mem_cons.mpr ⟨⟨(rg_name y).v, (rg_name y).v1⟩, (by intro x hx; cases hx)⟩⟩⟩)
def spLeaf : Sp := fun vs H Q _ => ∃ (w L : Addr) (ts : List Str) (c : Int), vs = [.ref w, .ref L] ∧ NH w L ts H ∧ Wl H w c ∧ c + 40 < 2 ^ 60 ∧
  ∀ (v : V) (d : PyData) (c' : Int) (H' : Hp), Dt (Nw w) H' v d → Tq 4 500 d → Rs 0 4 8 d → Kw w H H' → Wl H' w c' → c' ≤ c + 34 → Q v H'
def spWd (n : Nat) : Sp := fun vs H Q _ => ∃ (w L : Addr) (ts : List Str) (c : Int) (l : Nat), vs = [.ref w, .int l, .ref L] ∧ 0 < l ∧ l ≤ 2 ^ n ∧ l ≤ 100 ∧ NH w L ts H ∧ Wl H w c ∧ c + 36 * l + 40 < 2 ^ 60 ∧
  ∀ (v : V) (d : PyData) (c' : Int) (H' : Hp), Dt (Nw w) H' v d → Tq (4 + n) (580 * l - 80) d → (n ≤ 6 → Rg n (n + 4) d) → Kw w H H' → Wl H' w c' → c' + 2 ≤ c + 36 * l → Q v H'
theorem tq_two {n Z Y : Nat} {x : Str} {d e : PyData} (h : Tx 6 x) (a : Tq n Z d) (b : Tq n Y e) : Tq (n + 1) (Z + Y + 71) (.tuple [.str x, d, e]) :=
  (tq_tup (tqa_cons (tq_str h n) (tqa_cons a (tqa_cons b tqa_nil)))).mono (Nat.le_refl _) (by omega)
theorem tq_one {n Z : Nat} {x : Str} {d : PyData} (h : Tx 6 x) (a : Tq n Z d) : Tq (n + 1) (Z + 69) (.tuple [.str x, d]) :=
  (tq_tup (tqa_cons (tq_str h n) (tqa_cons a tqa_nil))).mono (Nat.le_refl _) (by omega)
theorem tq_nil {n : Nat} {x : Str} (h : Tx 6 x) : Tq (n + 1) 67 (.tuple [.str x]) :=
  (tq_tup (tqa_cons (tq_str h n) tqa_nil)).mono (Nat.le_refl _) (by omega)
theorem tx_all {n : Nat} {l : List Str} (h : (l.all fun x => PyData.strOk x && decide (x.length ≤ n)) = true) : ∀ x ∈ l, Tx n x := fun x hx => by
  obtain ⟨h1, h2⟩ := Bool.and_eq_true_iff.mp (List.all_eq_true.mp h x hx)
  exact ⟨h1, of_decide_eq_true h2⟩
theorem tx_lit {n : Nat} {x : Str} (h : (PyData.strOk x && decide (x.length ≤ n)) = true) : Tx n x := tx_all (l := [x]) (by simpa using h) x (by simp)
def wideW : List Str := ["plus", "pair", "cons", "call", "times"]
theorem wideW_ok : ∀ x ∈ wideW, Tx 6 x := tx_all (by decide +kernel)
end KB
namespace KB
open PySem L2 PySem.Spec PyProof.Rows
def spTl : Sp := fun vs H Q _ => ∃ (w L : Addr) (ts : List Str) (c : Int) (m : Nat), vs = [.ref w, .int m, .ref L] ∧ 0 < m ∧ m ≤ 200 ∧ NH w L ts H ∧ Wl H w c ∧ c + 300 < 2 ^ 60 ∧
  ∀ (v : V) (d : PyData) (c' : Int) (H' : Hp), Dt (Nw w) H' v d → Tq (4 + m) (500 + 420 * m) d → Rg 0 4 d → Kw w H H' → Wl H' w c' → c' ≤ c + 34 + m → Q v H'
end KB
namespace KB
open PySem L2 PySem.Spec PyProof.Rows
def Zt : Nat → Nat
  | 0 => 500
  | n + 1 => 5 * Zt n + 80
theorem Zt_ge : ∀ n, 500 ≤ Zt n
  | 0 => Nat.le_refl _
  | n + 1 => by
    have := Zt_ge n
    rw [Zt]
    omega
def Ctm : Nat → Int
  | 0 => 42
  | n + 1 => 5 * Ctm n + 3
theorem Ctm_ge : ∀ n, 42 ≤ Ctm n
  | 0 => Int.le_refl _
  | n + 1 => by
    have := Ctm_ge n
    rw [Ctm]
    omega
def spTm (n : Nat) : Sp := fun vs H Q _ => ∃ (w L : Addr) (ts : List Str) (c : Int), vs = [.ref w, .int ((n + 1 : Nat) : Int), .ref L] ∧ NH w L ts H ∧ Wl H w c ∧ c + Ctm n < 2 ^ 60 ∧
  ∀ (v : V) (d : PyData) (c' : Int) (H' : Hp), Dt (Nw w) H' v d → Tq (4 + n) (Zt n) d → Rs (rT n) (sT n) (tT n) d → Kw w H H' → Wl H' w c' → c' ≤ c + Ctm n → Q v H'
def termW : List Str := ["fn", "call", "let", "plus", "minus", "times", "pair", "first", "second", "left", "right", "case", "is", "cons", "fold", "fn", "let", "case", "call", "cons"]
theorem termW_ok : ∀ x ∈ termW, Tx 6 x := tx_all (by decide +kernel)
theorem termW_srt : (termW.all fun x => match srt x with | some ss => decide (ss.length ≤ 5) && ss.all fun s => decide (s ≠ .i) | none => false) = true := by decide +kernel
theorem termW_ss {x : Str} (h : x ∈ termW) : ∃ ss, srt x = some ss ∧ ss.length ≤ 5 ∧ ∀ s ∈ ss, s ≠ .i := by
  have := List.all_eq_true.mp termW_srt x h
  cases e : srt x with
  | none => rw [e] at this; cases this
  | some ss =>
    rw [e] at this
    obtain ⟨h1, h2⟩ := Bool.and_eq_true_iff.mp this
    exact ⟨ss, rfl, of_decide_eq_true h1, fun s hs => of_decide_eq_true (List.all_eq_true.mp h2 s hs)⟩
def sgnW : List Str := ["<", "<=", "=="]
theorem sgnW_ok : ∀ x ∈ sgnW, Tx 6 x := tx_all (by decide +kernel)
end KB
namespace KB
open PySem L2 PySem.Spec PyProof.Rows
def spGr : Sp := fun vs H Q _ => ∃ (w L : Addr) (ts : List Str) (c : Int), vs = [.ref w, .ref L] ∧ NH w L ts H ∧ Wl H w c ∧ c + 5000 < 2 ^ 60 ∧
  ∀ (v : V) (d : PyData) (c' : Int) (H' : Hp), Dt (Nw w) H' v d → Tq 150 70000 d → Rg 9 16 d → Kw w H H' → Wl H' w c' → c' ≤ c + 3000 → Q v H'
end KB
namespace KB
open PySem L2 PySem.Spec PyProof.Rows
def spNN : Sp := fun vs H Q _ => ∃ (w L : Addr) (ts : List Str) (c : Int), vs = [.ref w, .ref L] ∧ NH w L ts H ∧ Wl H w c ∧ c + 10 < 2 ^ 60 ∧
  ∀ (x : Str) (c' : Int) (H' : Hp), Tx 16 x → Kw w H H' → Wl H' w c' → c' ≤ c + 5 → Q (.str x) H'
theorem strs_dt {F : Addr → Prop} {H : Hp} : ∀ ws : List Str, DtA F H (ws.map V.str) (ws.map .str)
  | [] => .nil
  | w :: ws => .cons (.str w) (strs_dt ws)
def nearA : List Str := ["fn", "lets", "abcdefgh", "abcdefghi", "1x", "x1", "X", "x_", "", " x", "second", "seconds", "cons", "con"]
def nearB : List Str := ["unit1", "nil", "nils", "in", "inn", "num", "var", "fun", "name", "list", "fold", "xY", "x-", "a b", "x\n"]
def nearC : List Str := ["case", "let", "first", "left", "right", "pair", "either", "z9999999"]
def nearD : List Str := ["a", "7", "'", "A", "-", "z9"]
theorem near_ok : ∀ x ∈ nearA ++ nearB ++ nearC, Tx 9 x := tx_all (by decide +kernel)
theorem nearD_ok : ∀ x ∈ nearD, Tx 2 x := tx_all (by decide +kernel)
end KB
namespace KZ
open PySem L2 PySem.Spec PyProof.Rows
def IeS (K : PySem.W.Frag) (k : Int) (a : Addr) : It :=
  ⟨fun i H => ∃ (xs : List V) (x : V), SqT K H a xs ∧ xs[i]? = some x, fun i H v H' => ∃ T x, v = .ref T ∧ H T = none ∧ H' = upd H T (.tup [.int (k + (i : Nat)), x]) ∧ ∀ xs, SqT K H a xs → xs[i]? = some x, fun i H => ∃ xs : List V, SqT K H a xs ∧ xs.length ≤ i⟩
theorem turnS {P : Program} {w : World} {K : PySem.W.Frag} {elts : List Expr} {kk : Nat} {tpos : Pos} {k : Int} {a n : Nat} (na : a < n) :
    Turn P w K (.Tuple elts kk tpos) (IeS K k a) [n + 1, n] (n + 1) (fun i h => (∃ old, IsEnum h (n + 1) n (k + ((i : Nat) : Int)) old) ∧ h.IsTupleIter n a i) where
  mem := by simp
  obj := fun i h st b hb => by
    obtain ⟨⟨old, he⟩, ⟨o, ho, hc, hd⟩⟩ := st
    (rcases List.mem_cons.mp hb with z | z)
    · (rw [z]; exact ⟨_, he, fun v q => nomatch q⟩)
    · rw [List.mem_singleton.mp z]; exact ⟨o, ho, fun v q => by rw [hd] at q; cases q⟩
  keep := fun i h h' st kp => let ⟨⟨old, he⟩, hi⟩ := st; ⟨⟨old, kp (n + 1) (by simp) _ he⟩, hi.at fun o q => kp n (by simp) o q⟩
  item := by
    (intro X hP hw hK hc i pins s σ H E I hf st hg)
    subst hP hw hK
    obtain ⟨⟨old, he⟩, hit⟩ := st
    obtain ⟨xs, x, hq, hx⟩ := hg
    (obtain ⟨its, rv, p, hz⟩ := I.tuple hq)
    (obtain ⟨u, hu, ru⟩ := rv.get hx)
    have hel : n + 1 < s.heap.objs.size := Heap.lt_size he
    have hil : n < s.heap.objs.size := by omega
    have iu : its.toArray[i]? = some u := by simpa using hu
    have il : i < its.toArray.size := (Array.getElem?_eq_some_iff.mp iu).1
    have nn : @Ne Addr (n + 1) n := adn (by omega)
    have an : @Ne Addr a n := adn (by omega)
    have nin : (n + 1 : Addr) ∉ ([n, a] : List Addr) := fun z => by
      (rcases (List.mem_cons.mp z) with z | z)
      · exact nn z
      · exact (adn (by omega : n + 1 ≠ a)) (List.mem_singleton.mp z)
    have DR := Draws.tuple (prog := X.prog) (w := X.w) (A := X.A.in1) (show X.A.in1.handled = none from I.ok.hd hc) n a an its.toArray
    refine wpAny_pyNext_enum_itemC DR he (And.intro hit p) il nn nin fun y h' tk hy ho hs' hT hsz hk => ?_
    rw [iu] at hy
    obtain rfl := Option.some.inj hy
    refine ⟨_, rfl, wpAny_letOwnedTupleGo_enum (s := { s with heap := h', toks := tk + 1 }) ho fun h2nd he' sb => ?_⟩
    have hT2 : h2nd.get? s.heap.objs.size = some { cls := .type "tuple", data := .seq #[.int (k + (i : Nat)) tk, u] } := (sb.2 _ (Nat.ne_of_gt hel)).trans hT
    have new : ObjOk X.prog X.w (upd H s.heap.objs.size (.tup [.int (k + (i : Nat)), x])) h2nd s.heap.objs.size (.tup [.int (k + (i : Nat)), x]) :=
      ⟨by show 2 ≤ sizeLine; decide, [.int (k + (i : Nat)) tk, u], .cons ⟨_, rfl⟩ (.cons ru .nil), ⟨_, hT2, rfl, _, rfl⟩⟩
    have out : ∀ b, b ∉ ([n + 1, n] : List Addr) → b ≠ n + 1 ∧ b ≠ n := fun b hb => ⟨fun z => hb (by simp [z]), fun z => hb (by simp [z])⟩
    have I1 : Inv X pins σ (upd H s.heap.objs.size (.tup [.int (k + (i : Nat)), x])) { s with heap := h2nd, toks := tk + 1 } :=
      I.turnedNew (ch := [n + 1, n]) (fun b ob hb q => (sb.2 b (out b hb).1).trans (hk b ob (out b hb).1 (out b hb).2 q)) hf (Nat.le_refl _) new
    refine ⟨.ref s.heap.objs.size, _, I1, rfl, ⟨_, x, rfl, I.hok.fresh (Nat.le_refl _), rfl, fun ys hy => by rw [I.tuple_inj hy hq]; exact hx⟩, ⟨⟨u, ?_⟩, hs'.1.at fun o q => (sb.2 n (adn (by omega))).trans q⟩, fun b hb => ?_⟩
    · have c1 : k + ((i + 1 : Nat) : Int) = k + (i : Int) + 1 := by omega
      rw [c1]; exact he'
    · have lt : b < s.heap.objs.size := by
        (rcases List.mem_cons.mp hb with z | z)
        · rw [z]; exact hel
        · rw [List.mem_singleton.mp z]; exact hil
      rw [upd_ne (Nat.ne_of_lt lt)]
      exact (hf b hb).1
  done := by
    (intro X hP hw hK hc i pins s σ H E I hf st hg)
    subst hP hw hK
    obtain ⟨⟨old, he⟩, hit⟩ := st
    obtain ⟨xs, hq, hx⟩ := hg
    (obtain ⟨its, rv, p, hz⟩ := I.tuple hq)
    obtain ⟨f0, f1, f2, f3, f4, f5⟩ := hf n (by simp)
    have hl := rv.length
    have hn : its.toArray[i]? = none := by simp; omega
    have hT : s.TypeIs (.ref (n + 1)) "enumerate" := ⟨_, he, rfl⟩
    unfold pyNext
    refine wpAny_bind (wpAny_attempt (wpAny_callSpecial?_slot (name := Str.ofString "__next__") hT F.slot_enumerate_next (wpAny_call_entry F.slot_enumerate_next hT F.entry_enumerate_next ?_ (F.args_enumerate_next_1 _))))
    show wpAny _ _ (field (.ref (n + 1)) 2 >>= _) _ _ _
    refine wpAny_bind (wpAny_field he rfl (x := .ref n) rfl ?_)
    refine wpAny_bind (wpAny_nextOf_tuple_end (I.ok.hd hc) hit p hn fun h' x hb hx' => ?_)
    obtain ⟨o, ho, hcl⟩ := hx'
    refine wpAny_bind (wpAny_isInstance (T := "StopIteration") (b := true) ⟨o, ho, hcl⟩ isSubtype_stop ?_)
    exact wpAny_pure ⟨rfl, I.turned (t' := s.toks) (fun b o hbn q => hb b o hbn q) f0 f1 f3 f4 f5⟩
  self := fun A i s Q E st hq => let ⟨⟨_, he⟩, _⟩ := st; wpAny_pyIter_enum he hq
section
variable {A : Around} {M : Model} {E : Value → Shared → Prop} {env : Env} {s : Shared}
theorem cw_type_kwB {pos : Pos} {T : String} {first : List Value} {args : List (Bool × Sem Value)} {keywords : List (Option Str × Sem Value)} {Q : Value → Shared → Prop} (hplain : args.any (·.1) = false) (hkw : keywords.any (·.1.isNone) = false)
    (h : wpAny M A (evalArgs (.type T) true args keywords) (fun a s₁ => wpAny M A (call (.type T) (first ++ a.pos) a.kw) Q E s₁) E s) :
    wpAny M A (callWith pos (.type T) first args keywords) Q E s := by
  unfold callWith
  (refine wpAny_bind (wpAny_holding (wpAny_mono h (fun a s₁ h₁ => wpAny_bind (wpAny_standAt ?_)) fun _ _ x => x)))
  (simp only [hplain, hkw, Bool.or_false])
  (refine wpAny_bind (wpAny_pure ?_))
  (exact wpAny_bind (wpAny_mono h₁ (fun r s₂ hr => wpAny_bind (wpAny_holding (wpAny_point (wpAny_pure hr)))) fun _ _ x => x))
theorem cw_type_kw {pos : Pos} {T : String} {e : Expr} {rest : List Expr} {kws : List Keyword} {Q : Value → Shared → Prop} (h : wpAny M A (spliced (backTo pos (starEach (e :: rest) env))) (fun vs s₁ => wpAny M A (evalAll ((backToKw pos (keywordEach kws env)).map (·.2)))
      (fun kvs s₂ => wpAny M A (call (.type T) vs (((backToKw pos (keywordEach kws env)).filterMap (·.1)).zip kvs)) Q E s₂) E s₁) E s) (he : backTo pos (starEach (e :: rest) env) = (false, eval e env) :: backTo pos (starEach rest env) := by rfl) (hplain : (backTo pos (starEach (e :: rest) env)).any (·.1) = false := by rfl) (hall : (backToKw pos (keywordEach kws env)).all (·.1.isSome) = true := by rfl) (hkw : (backToKw pos (keywordEach kws env)).any (·.1.isNone) = false := by rfl) :
    wpAny M A (callWith pos (.type T) [] (backTo pos (starEach (e :: rest) env)) (backToKw pos (keywordEach kws env))) Q E s := by
  refine cw_type_kwB hplain hkw ?_
  rw [he] at h ⊢
  exact evalArgs_kwB hall h
end
def iEnumS (K : PySem.W.Frag) (ta tk : TA) : TI := fun σ H R => ta σ H fun vs H1 => tk σ H1 fun zs H2 => ∃ a xs k, vs = [.ref a] ∧ zs = [.int k] ∧ 0 ≤ k ∧ k < 2 ^ 62 ∧ SqT K H2 a xs ∧ R (IeS K k a) H2
theorem pi_enumS {X : Cx} {e : Expr} {kws : List Keyword} {ta tk : TA} {p pos tpos : Pos} {elts : List Expr} {kk : Nat} (hg : Gl X "enumerate") (hm : X.mg "enumerate" = none) (ha : PA X [e] ta) (hk : PK X kws tk)
    (he : backTo pos (starEach [e] X.env) = (false, eval e X.env) :: backTo pos (starEach [] X.env) := by rfl) (hpl : (backTo pos (starEach [e] X.env)).any (·.1) = false := by rfl)
    (hall : (backToKw pos (keywordEach kws X.env)).all (·.1.isSome) = true := by rfl) (hnone : (backToKw pos (keywordEach kws X.env)).any (·.1.isNone) = false := by rfl) (hks : (backToKw pos (keywordEach kws X.env)).filterMap (·.1) = [Str.ofString "start"] := by rfl) :
    PI X (.Tuple elts kk tpos) (.Call (.Name "enumerate" p) [e] kws pos) (iEnumS X.K ta tk) := by
  (refine ⟨fun pins s σ H R I h => ?_⟩)
  refine wpAny_Call_Name_kw (ld_blt I hg hm boot_enumerate ?_)
  refine cw_type_kw (thn (ha.run pos pins s σ H _ I h) fun us s1 ⟨vs, H1, I1, r1, q1⟩ => thn (hk.run pos pins s1 σ H1 _ I1 q1) fun ws s2 ⟨zs, H2, I2, r2, q2⟩ => ?_) he hpl hall hnone
  rw [hks]
  obtain ⟨a, xs, k, ex, ez, k0, k1, hq, q⟩ := q2
  subst ex
  subst ez
  cases r1 with
  | cons r rr =>
    cases rr
    cases r
    cases r2 with
    | cons rz rrz =>
    cases rrz
    obtain ⟨tz, rfl⟩ := rz
    obtain ⟨its, rv, p', hz⟩ := I2.tuple hq
    obtain ⟨o1, ho1, _⟩ := id p'
    refine enum_begins_start (begins_tuple a its.toArray) p' (by omega) (by omega) fun h' en hit hsz hk' => wpAny_pyIter_enum en ?_
    have I3 : Inv X pins σ H2 { s2 with heap := h' } := I2.kept (t' := s2.toks) hk'
    refine ⟨s2.heap.objs.size + 1, [s2.heap.objs.size + 1, s2.heap.objs.size], _, _, H2, rfl, I3, turnS (n := s2.heap.objs.size) (k := k) (Heap.lt_size ho1), ⟨⟨.none, ?_⟩, ⟨_, hit, rfl, rfl⟩⟩, fun b hb => ?_, q⟩
    · rw [show k + ((0 : Nat) : Int) = k by omega]
      exact en
    have hle : b ≥ s2.heap.objs.size := by
      (rcases List.mem_cons.mp hb with z | z)
      · rw [z]; exact Nat.le_succ _
      · rw [List.mem_singleton.mp z]; exact Nat.le_refl _
    exact I2.fpOk hle (I2.hok.fresh hle)
theorem walk_enumS {K : PySem.W.Frag} {k : Int} {a : Addr} {xs : List V} : Walk (IeS K k a) xs.length (fun H => SqT K H a xs) (fun i H v H' => ∃ T x, v = .ref T ∧ H T = none ∧ H' = upd H T (.tup [.int (k + (i : Nat)), x]) ∧ xs[i]? = some x) := by
  (refine ⟨fun i _ hi q => ⟨xs, xs[i], q, by simp [hi]⟩, fun _ q => ⟨xs, q, Nat.le_refl _⟩, fun i H v H' _ q y => ?_⟩)
  (obtain ⟨T, x, h1, h2, h3, h4⟩ := y)
  exact ⟨T, x, h1, h2, h3, h4 xs q⟩
end KZ
namespace KB
open PySem L2 PySem.Spec PyProof.Rows
def ixs : List So → Nat → List Int
  | [], _ => []
  | s :: ss, k => if s = .t then (k : Int) :: ixs ss (k + 1) else ixs ss (k + 1)
theorem ixs_take : ∀ (ss : List So) (k i : Nat) (s : So), ss[i]? = some s → ixs (ss.take (i + 1)) k = ixs (ss.take i) k ++ (if s = .t then [((k + i : Nat) : Int)] else [])
  | s :: ss, k, 0, s', h => by
    cases h
    rw [List.take_succ_cons, List.take_zero, List.take_zero, ixs, ixs, ixs]
    by_cases z : s = .t
    · rw [if_pos z, if_pos z]; rfl
    · rw [if_neg z, if_neg z]; rfl
  | s :: ss, k, i + 1, s', h => by
    rw [List.getElem?_cons_succ] at h
    have ih := ixs_take ss (k + 1) i s' h
    rw [List.take_succ_cons, List.take_succ_cons, ixs, ixs, ih]
    have e : k + 1 + i = k + (i + 1) := by omega
    rw [e]
    by_cases z : s = .t
    · rw [if_pos z, if_pos z]; rfl
    · rw [if_neg z, if_neg z]
  | [], _, _, _, h => (by cases h)
theorem ixs_len : ∀ (ss : List So) (k : Nat), (ixs ss k).length ≤ ss.length
  | [], _ => Nat.le_refl _
  | s :: ss, k => by
    rw [ixs]
    have := ixs_len ss (k + 1)
    by_cases z : s = .t
    · rw [if_pos z, List.length_cons, List.length_cons]; omega
    · rw [if_neg z, List.length_cons]; omega
def tkd : List So → List PyData → List PyData
  | s :: ss, d :: ds => if s = .t then d :: tkd ss ds else tkd ss ds
  | [], _ => []
  | _ :: _, [] => []
theorem ixs_tkd : ∀ (ss : List So) (ds : List PyData) (k : Nat), ss.length = ds.length → ∃ js : List Nat, ixs ss k = js.map (fun j => ((k + j : Nat) : Int)) ∧ (js.map fun j => ds[j]?) = (tkd ss ds).map some
  | [], ds, k, _ => ⟨[], rfl, by cases ds <;> rfl⟩
  | s :: ss, [], k, h => by cases h
  | s :: ss, d :: ds, k, h => by
    obtain ⟨js, h1, h2⟩ := ixs_tkd ss ds (k + 1) (by simpa using h)
    have e : (js.map fun j => ((k + 1 + j : Nat) : Int)) = (js.map (· + 1)).map fun j => ((k + j : Nat) : Int) := by
      rw [List.map_map]
      refine List.map_congr_left fun j _ => ?_
      show ((k + 1 + j : Nat) : Int) = ((k + (j + 1) : Nat) : Int)
      have : k + 1 + j = k + (j + 1) := by omega
      rw [this]
    have e2 : ((js.map (· + 1)).map fun j => (d :: ds)[j]?) = js.map fun j => ds[j]? := by
      rw [List.map_map]
      rfl
    by_cases z : s = .t
    · refine ⟨0 :: js.map (· + 1), ?_, ?_⟩
      · rw [ixs, if_pos z, h1, e]; rfl
      · rw [List.map_cons, e2, h2, tkd, if_pos z]; rfl
    · refine ⟨js.map (· + 1), ?_, ?_⟩
      · rw [ixs, if_neg z, h1, e]
      · rw [e2, h2, tkd, if_neg z]
def spIx : Sp := fun vs H Q _ => ∃ (F : Addr → Prop) (v : V) (wd : Str) (ss : List So) (ds : List PyData), vs = [v] ∧ Dt F H v (.tuple (.str wd :: ds)) ∧ srt wd = some ss ∧
  ∀ (L : Addr) (H' : Hp), Same H H' → H L = none → H' L = some (.lst ((ixs ss 1).map V.int)) → Q (.ref L) H'
def spIt : Sp := fun vs H Q _ => ∃ (F : Addr → Prop) (v : V) (d : PyData), vs = [v] ∧ Dt F H v d ∧ sz d ≤ 4000000 ∧ dsz d ≤ 2000000 ∧ ∀ H', Same H H' → Q (.bl (wq 100 100 d 0).isNone) H'
end KB
namespace KB
open PySem L2 PySem.Spec PyProof.Rows
section
variable {A : Around} {E : Value → Shared → Prop} {s : Shared} {P : Program} {w : World}
theorem put_meets {d : Addr} {kvs : List (L2.Key × Value)} {k : L2.Key} {key v : Value} {Q : Unit → Shared → Prop} (hkey : (mixKind P w).is k key = true) (hm : s.heap.DictOf (mixKind P w) d kvs)
    (hQ : ∀ h', h'.DictOf (mixKind P w) d (stored kvs k v) → Heap.SameBut d s.heap h' → Q () { s with heap := h' }) (hsz : kvs.length ≤ sizeLine) :
    wpAny (model P w) A (dictPut d ((mixKind P w).hash k) key v) Q E s := by
  (obtain ⟨o, es, ep, ho, hc, hd, hk, hp, hn⟩ := hm)
  have hes : (es.size) ≤ sizeLine := by
    have e1 := hp.length
    (rw [Array.length_toList] at e1)
    omega
  unfold dictPut
  (refine wpAny_bind (wpAny_dictFind_of hkey ho hd hk ?_))
  have hidx : (es.findIdx? fun e => (mixKind P w).is k e.key) = kvs.findIdx? fun kv => decide (kv.1 = k) := by
    (rw [← hp.findIdx k]; obtain ⟨l⟩ := es; simp)
  cases hi : es.findIdx? fun e => (mixKind P w).is k e.key with
  | some i =>
    refine wpAny_updateDict ho hd (hQ _ ⟨_, _, ep, Heap.get?_update_self _ ho (Obj.isFreed_of_dict (Obj.data_mapDict hd _)), hc.mapDict _, Obj.data_mapDict hd _, hk.modify _ _, ?_, ?_⟩ (Heap.SameBut.update ..))
    · (rw [stored, if_pos (any_of_findIdx_some (hidx ▸ hi))])
      have hl : (es.toList.findIdx? fun e => (mixKind P w).is k e.key) = some i := by rw [← hi]; obtain ⟨l⟩ := es; simp
      have := hp.modify hn hl v
      obtain ⟨l⟩ := es
      simpa using this
    · (rw [stored, if_pos (any_of_findIdx_some (hidx ▸ hi)), keys_map_store]; exact hn)
  | none =>
    (have hnot : k ∉ kvs.map (·.1) := not_mem_of_findIdx_none (hidx ▸ hi))
    have hany : ¬ ((kvs.any fun kv => decide (kv.1 = k)) = true) := by
      (rw [List.any_eq_true]; rintro ⟨kv, hkv, he⟩)
      (exact hnot (List.mem_map.mpr ⟨kv, hkv, of_decide_eq_true he⟩))
    refine wpAny_updateDictKeys (hz := hes) ho hd (hQ _ ⟨_, _, ep + 1, Heap.get?_update_self _ ho (Obj.isFreed_of_dict (Obj.data_mapDictKeys hd _)), hc.mapDictKeys _, Obj.data_mapDictKeys hd _, hk.push hkey _, ?_, ?_⟩ (Heap.SameBut.update ..))
    · rw [stored, if_neg hany]
      have := hp.append hkey ((mixKind P w).hash k) v
      obtain ⟨l⟩ := es
      simpa using this
    · (rw [stored, if_neg hany, List.map_append, List.nodup_append])
      refine ⟨hn, by simp, ?_⟩
      intro a ha b hb
      (simp only [List.map_cons, List.map_nil, List.mem_singleton] at hb)
      subst hb
      exact fun e => hnot (e ▸ ha)
theorem merge_meets {d o : Addr} {kvs more : List (L2.Key × Value)} {Q : Unit → Shared → Prop} (hdo : d ≠ o) (hoS : (o == sysModules) = false) (hd : s.heap.DictOf (mixKind P w) d kvs) (ho : s.heap.DictOf (mixKind P w) o more)
    (hQ : ∀ h', h'.DictOf (mixKind P w) d (merged kvs more) → h'.DictOf (mixKind P w) o more → Heap.SameBut d s.heap h' → Q () { s with heap := h' }) (hsz : kvs.length + more.length ≤ sizeLine) :
    wpAny (model P w) A (mergeMapping d (.ref o) false) Q E s := by
  (obtain ⟨od, esd, epd, hod, hcd, hdd, hkd, hpd, hnd⟩ := id hd)
  (obtain ⟨oo, eso, epo, hoo, hco, hdo', hko, hpo, hno⟩ := id ho)
  have hlen : more.length = eso.size := by
    rw [← hpo.length]; simp
  unfold mergeMapping
  (refine wpAny_bind (wpAny_isInstance ho.typeIs isSubtype_dict_dict ?_))
  rw [if_pos rfl]
  refine wpAny_bind (wpAny_specialOf ho.typeIs F.slot_dict_iter.lookup ?_)
  (refine wpAny_bind (wpAny_pure ?_))
  have eb : ((some (Value.builtin "dict.__iter__") : Option Value) == some (Value.builtin "dict.__iter__")) = true := by decide +kernel
  rw [eb]
  dsimp only
  (rw [if_neg (by rw [hoS]; exact Bool.false_ne_true)])
  (refine wpAny_bind (wpAny_dictEntries hod hdd ?_))
  split
  (refine wpAny_bind (wpAny_dictEntries hoo hdo' ?_))
  refine wpAny_bind (wpAny_of_eq (a := PUnit.unit) ?hl ?_)
  case hl =>
    rw [← Array.forIn_toList]
    (refine forIn_yield_id _ fun e he c => ?_)
    obtain ⟨k, hkey, _⟩ := hko e (Array.mem_toList_iff.mp he)
    rcases keyIs_shape hkey with ⟨i, t, _, ek⟩ | ⟨x, t, _, ek⟩
    · rw [ek]
    · rw [ek]
  all_goals
    (refine wpAny_bind (wpAny_dictEntries hoo hdo' ?_))
    (refine wpAny_bind (wpAny_dictEpoch hoo hdo' ?_))
    refine wpAny_bind ?_
    refine wpAny_forIn_list _
      (fun rest _ s' => ∃ h' i, s' = { s with heap := h' } ∧ rest = List.range' i (eso.size - i) ∧ i ≤ eso.size ∧ h'.DictOf (mixKind P w) d (merged kvs (more.take i)) ∧ h'.get? o = some oo ∧ Heap.SameBut d s.heap h')
      _ ?_ ?_ _ _ ⟨s.heap, 0, rfl, by rw [List.range_eq_range']; rfl, Nat.zero_le _, by simpa [merged] using hd, hoo, Heap.SameBut.refl _ _⟩
    · (rintro x rest b s' ⟨h', i, rfl, hr, hi, hd', hoo', hs'⟩)
      have hlt : i < eso.size := by
        (rcases Nat.lt_or_ge i eso.size with h | h)
        · exact h
        · (rw [Nat.sub_eq_zero_of_le h] at hr; simp at hr)
      obtain ⟨rfl, hrest⟩ : x = i ∧ (rest = List.range' (i + 1) (eso.size - (i + 1))) := by
        (have e : eso.size - i = (eso.size - (i + 1)) + 1 := by omega)
        (rw [e, List.range'_succ] at hr)
        injection hr with h1 h2
        exact ⟨h1, h2⟩
      (refine wpAny_bind (wpAny_dictEntries hoo' hdo' ?_))
      (rw [Array.getElem?_eq_getElem hlt])
      (obtain ⟨kv, hkv⟩ : ∃ kv, more[x]? = some kv := ⟨more[x]'(by rw [hlen]; exact hlt), List.getElem?_eq_getElem _⟩)
      obtain ⟨k, v⟩ := kv
      (obtain ⟨hkey, hval⟩ := hpo.get? (e := eso[x]) (by simp [hlt]) hkv)
      (obtain ⟨k', hkey', hhash⟩ := hko eso[x] (Array.getElem_mem hlt))
      obtain rfl : k' = k := (mixKind P w).inj _ _ _ hkey' hkey
      dsimp only
      rw [hhash, hval]
      have hmx : ((merged kvs (more.take x)).length) ≤ sizeLine := by
        (have e1 := merged_length_le kvs (more.take x))
        (have e2 : (more.take x).length ≤ more.length := by rw [List.length_take]; omega)
        omega
      (refine wpAny_bind (wpAny_holding ?_))
      (rw [if_neg Bool.false_ne_true])
      refine put_meets hkey hd' (fun h'' hd'' hs'' => ?_) hmx
      (have hoo'' : h''.get? o = some oo := (hs''.2 o (Ne.symm hdo)).trans hoo')
      (refine wpAny_bind (wpAny_dictEpoch hoo'' hdo' ?_))
      rw [if_neg (by simp)]
      (exact wpAny_pure ⟨h'', x + 1, rfl, hrest, hlt, by rw [merged_take_succ kvs more x (k', v) hkv]; exact hd'', hoo'', hs'.trans hs''⟩)
    · (rintro b s' ⟨h', i, rfl, hr, hi, hd', hoo', hs'⟩)
      have hin : i = eso.size := by
        (rcases Nat.lt_or_ge i eso.size with h | h)
        · (have e : eso.size - i = (eso.size - (i + 1)) + 1 := by omega)
          (rw [e, List.range'_succ] at hr; exact nomatch hr)
        · exact Nat.le_antisymm hi h
      (refine wpAny_pure (hQ h' ?_ ⟨oo, eso, epo, hoo', hco, hdo', hko, hpo, hno⟩ hs'))
      rw [hin, ← hlen, List.take_length] at hd'
      exact hd'
end
def tDStar (td tk tv : TE) : TE := fun σ H Q => ∀ p, H p = none → td σ (upd H p (.dK [])) fun x H1 => ∃ (a : Addr) (kvs : List (L2.Key × V)), x = .ref a ∧ p ≠ a ∧ H1 a = some (.dK kvs) ∧ H1 p = some (.dK []) ∧ kvs.length ≤ 900 ∧
  ∀ q, upd H1 p (.dK (mergeK [] kvs)) q = none → tk σ (upd (upd H1 p (.dK (mergeK [] kvs))) q (.dK [])) fun kv H2 => tv σ H2 fun y H3 => ∃ k : L2.Key, kv = kV k ∧ p ≠ q ∧ H3 q = some (.dK []) ∧ H3 p = some (.dK (mergeK [] kvs)) ∧
    Q (.ref p) (upd (upd H3 q (.dK (mergeK [] [(k, y)]))) p (.dK (mergeK (mergeK [] kvs) (mergeK [] [(k, y)]))))
theorem pe_dstar {X : Cx} {pos : Pos} {d k v : Expr} {td tk tv : TE} (hd : PE X d td) (hk : PE X k tk) (hv : PE X v tv) : PE X (.Dict [none, some k] [d, v] pos) (tDStar td tk tv) := by
  (refine ⟨fun pins s σ H Q I q => ?_⟩)
  (have hn := I.hok.fresh (Nat.le_refl s.heap.objs.size))
  (have I1 := I.laid (a := s.heap.objs.size) (o := .dK []) (h' := s.heap.push { cls := .type "dict", data := .dict #[] }) (t' := s.toks) (fun _ _ q => Heap.get?_push_of_some _ q) (Nat.le_refl _) (dk_empty s.heap I.big))
  rw [arm_eval_Dict]
  (refine wpAny_bind (wpAny_standAt ?_))
  show wpAny _ _ (dictDisplay [(none, do let x ← eval d X.env; standAt pos; pure x), (some (eval k X.env), do let x ← eval v X.env; standAt pos; pure x)]) _ _ _
  unfold dictDisplay
  dsimp only
  rw [List.forIn_cons]
  (refine wpAny_bind (wpAny_bind ?_))
  dsimp only
  refine wpAny_bind ?_
  rw [if_pos (show ([] : List (Sem Value × Sem Value)).isEmpty = true from rfl)]
  refine wpAny_pure ?_
  dsimp only
  (refine wpAny_bind (wpAny_alloc ?_))
  (refine wpAny_bind (wpAny_holding ?_))
  refine wpAny_bind (thn (hd.run pins _ σ _ _ I1 (q _ hn)) fun u s1 ⟨x, H1, J1, r1, a, kvs, ex, pa, ha, hp, hl, q1⟩ => ?_)
  subst ex
  (obtain rfl : u = Value.ref a := r1)
  (refine wpAny_bind (wpAny_standAt (wpAny_pure ?_)))
  obtain ⟨z0, hdp, ws0, r0, dd0⟩ := dk_of J1.hok hp
  cases r0
  obtain ⟨z1, hda, ws, rel, dda⟩ := dk_of J1.hok ha
  have sl : (900 : Nat) + 1 ≤ sizeLine := Nat.le_of_lt (small1000 (by decide))
  have lw := Paired.length rel
  refine wpAny_bind (wpAny_onRaise (wpAny_tryCatch (wpAny_onRaise (wpAny_holding (merge_meets (P := X.prog) (w := X.w) pa hda dd0 dda (fun h1 dd1 _ hs1 => ?_) (by rw [List.length_nil, ← lw]; omega))))))
  have lm0 := length_mergeK kvs []
  rw [List.length_nil] at lm0
  have J2 := d_write (t' := s1.toks) J1 (by rw [hp]; exact True.intro) hs1 (let ⟨q, _, _, hq, _⟩ := dd1; ⟨q, hq⟩) (dk_new (by omega) hdp (KV.merge rel .nil) dd1)
  refine wpAny_pure ?_
  dsimp only
  rw [List.forIn_cons]
  refine wpAny_bind ?_
  dsimp only
  rw [if_neg (by simp)]
  refine wpAny_pure ?_
  dsimp only
  rw [List.forIn_nil]
  refine wpAny_pure ?_
  dsimp only
  rw [if_neg (by simp)]
  have hn2 := J2.hok.fresh (Nat.le_refl _)
  have J3 := J2.laid (a := h1.objs.size) (o := .dK []) (h' := h1.push { cls := .type "dict", data := .dict #[] }) (t' := s1.toks) (fun _ _ q => Heap.get?_push_of_some _ q) (Nat.le_refl _) (dk_empty h1 J2.big)
  refine wpAny_bind (wpAny_bind (wpAny_holding (wpAny_subDict (knd := mixKind X.prog X.w) (by simp) ?_)))
  refine evalPairs_cons (thn (hk.run pins _ σ _ _ J3 (q1 _ hn2)) fun ku s2 ⟨kv, H2, J4, rk, q2⟩ => ?_)
  refine wpAny_bind (thn (hv.run pins s2 σ H2 _ J4 q2) fun yu s3 ⟨y, H3, J5, ry, k', ek, pq, hq, hp3, q3⟩ => ?_)
  refine wpAny_bind (wpAny_standAt (wpAny_pure (evalPairs_nil ?_)))
  subst ek
  obtain ⟨z2, hdq, wsq, rq, ddq⟩ := dk_of J5.hok hq
  cases rq
  have rel2 : KV [(k', y)] [(k', yu)] := .cons ⟨rfl, ry⟩ .nil
  refine ⟨[(k', yu)], ⟨kV_is rk, rfl, True.intro⟩, ddq, fun h2 dd2 hs2 => ?_⟩
  have lm1 := length_mergeK [(k', y)] []
  rw [List.length_nil, List.length_singleton] at lm1
  have J6 := d_write (t' := s3.toks + 1) J5 (by rw [hq]; exact True.intro) hs2 (let ⟨q, _, _, hq, _⟩ := dd2; ⟨q, hq⟩) (dk_new (by omega) hdq (KV.merge rel2 .nil) dd2)
  have hp6 : upd H3 h1.objs.size (.dK (mergeK [] [(k', y)])) s.heap.objs.size = some (.dK (mergeK [] kvs)) := by
    rw [upd_ne pq]
    exact hp3
  obtain ⟨z3, hd3, ws3, rel3, dd3⟩ := dk_of J6.hok hp6
  have hq6 : upd H3 h1.objs.size (.dK (mergeK [] [(k', y)])) h1.objs.size = some (.dK (mergeK [] [(k', y)])) := upd_same
  obtain ⟨z4, hd4, ws4, rel4, dd4⟩ := dk_of J6.hok hq6
  have l3 := Paired.length rel3
  have l4 := Paired.length rel4
  refine wpAny_bind (wpAny_onRaise (wpAny_holding (merge_meets (P := X.prog) (w := X.w) pq hd4 dd3 dd4 (fun h3 dd5 _ hs3 => ?_) (by omega))))
  have lm2 := length_mergeK (mergeK [] [(k', y)]) (mergeK [] kvs)
  have J7 := d_write (t' := s3.toks + 1) J6 (by rw [hp6]; exact True.intro) hs3 (let ⟨q, _, _, hq, _⟩ := dd5; ⟨q, hq⟩) (dk_new (by omega) hd3 (KV.merge rel4 rel3) dd5)
  refine wpAny_pure ?_
  dsimp only
  exact wpAny_pure ⟨.ref s.heap.objs.size, _, J7, rfl, q3⟩
end KB
namespace N3
open PySem PySem.Spec PyProof.Rows L2 KB
section
variable {K : PySem.W.Frag} {mg : Str → Option Value} {base : Heap} {P : Program} {w : World}
abbrev nDip : List Str := ["_law_well_here", "_law_top", "_law_digit", "_law_seed"]
theorem sc_nDip : FnScope nDip ["_law_well_here", "_law_top"] (defScope (top 41)) := ⟨rfl, rfl, rfl, by decide +kernel, rfl, by decide +kernel, by decide +kernel⟩
theorem ok_dip {f : Addr} {fd : FuncData} (F : FnP K "_law_dip" (top 41) f fd) (T : Bl K mg) : FnOk P w K mg base CX0 1 f fd ["_law_well_here", "_law_top"] spDraw := by
  refine F.ok sc_nDip (fun vs H Q E h => ?_) (fun cdv A outer s H vs Q E hr h => ?_)
  · obtain ⟨w, k, c, rfl, _⟩ := h
    rfl
  · obtain ⟨w, k, c, rfl, ⟨n, m, hw, hn, hm, hm2, hc⟩, hc2, hk, hk2, q⟩ := h
    have sc := sc_nDip
    refine ⟨_, PSs.nox (pss_cons (ps_if (pt_cmpR op_gt (pe_ix ix_list (pv 0) pe_int (fun _ _ => rfl)) pe_int (nomark _)) (pss_cons (ps_asg (pe_callB call_divmod (by rfl) T.divmod (by decide +kernel) (pa_cons (pe_ix ix_list (pv 0) pe_int (fun _ _ => rfl)) (pa_cons (pv 1) pa_nil))) (pg_tup rfl (pgs_cons (pg_sub (pv 0) pe_int set_list) (pgs_cons (pg_name (i := 2) sc.nd rfl (Or.inl rfl)) pgs_nil)))) (pss_one (ps_ret (pv 2)))) pss_nil) (pss_cons (ps_asg (pe_op op_add (pe_ix ix_list (pv 0) pe_int (fun _ _ => rfl)) pe_int) (pg_sub (pv 0) pe_int set_list)) (pss_cons (ps_set (i := 3) sc.nd rfl (Or.inl rfl) (pe_op op_mod (pe_callTy call_int1 (by rfl) T.int (by decide +kernel) (pa_cons (pe_op op_add (pe_ix ix_list (pv 0) pe_int (fun _ _ => rfl)) (pe_op op_mul pe_int (pe_ix ix_list (pv 0) pe_int (fun _ _ => rfl)))) pa_nil)) pe_int)) (pss_cons (ps_asg (pe_op op_mod (pe_callTy call_int1 (by rfl) T.int (by decide +kernel) (pa_cons (pe_op op_add (pe_op op_mul (pv 3) (pe_op op_add (pe_op op_mod (pe_callTy call_int1 (by rfl) T.int (by decide +kernel) (pa_cons (pv 3) pa_nil)) pe_int) pe_int)) (pe_op op_mul pe_int (pe_ix ix_list (pv 0) pe_int (fun _ _ => rfl)))) pa_nil)) pe_int) (pg_sub (pv 0) pe_int set_list)) (pss_one (ps_ret (pe_op op_mod (pe_callTy call_int1 (by rfl) T.int (by decide +kernel) (pa_cons (pe_op op_fdiv (pe_ix ix_list (pv 0) pe_int (fun _ _ => rfl)) pe_int) pa_nil)) (pv 1)))))))), ?_⟩
    refine ⟨_, rfl, w, _, _, _, rfl, rfl, SqL.of hw, at0, _, _, rfl, rfl, _, rfl, ite2 (fun g => ?_) (fun g => ?_)⟩
    · have gn : 0 < n := of_decide_eq_true g
      refine ⟨_, rfl, w, _, _, _, rfl, rfl, SqL.of hw, at0, _, rfl, n, k, rfl, ⟨hk, by omega⟩, fun p hp => ?_⟩
      have nw : w ≠ p := ne_of_none hw hp
      refine ⟨p, _, rfl, SqT.of upd_same, rfl, _, _, rfl, _, rfl, w, _, 0, 0, rfl, rfl, Eq.trans (upd_ne nw) hw, rfl, _, _, rfl, ?_⟩
      refine ⟨rfl, _, rfl, ?_⟩
      refine q (n % k) c _ (Int.emod_nonneg _ (by omega)) (Int.emod_lt_of_pos _ hk) ?_ ⟨n / k, m, upd_same, Int.ediv_nonneg hn (by omega), hm, hm2, hc⟩ (by omega)
      exact (Kw.new hp).trans Kw.put
    · refine ⟨_, rfl, w, _, _, _, rfl, rfl, SqL.of hw, at2, _, _, rfl, rfl, _, rfl, w, _, 2, 2, rfl, rfl, hw, rfl, ?_⟩
      have h1 : upd H w (.lst [.int n, .int m, .int (c + 1)]) w = some (.lst [.int n, .int m, .int (c + 1)]) := upd_same
      refine ⟨_, rfl, w, _, _, _, rfl, rfl, SqL.of h1, at1, _, rfl, w, _, _, _, rfl, rfl, SqL.of h1, at2, _, _, rfl, rfl, .inl ⟨by decide, by decide⟩, _, _, rfl, rfl, .inl ⟨_, rfl, _, _, rfl, rfl, (by decide : (0 : Int) < 2147483579), ?_⟩⟩
      refine ⟨_, rfl, _, rfl, .inl ⟨_, rfl, _, _, rfl, rfl, (by decide : (0 : Int) < 6007), _, _, rfl, rfl, _, _, rfl, rfl, .inl ⟨by omega, by omega⟩, ?_⟩⟩
      refine ⟨_, rfl, w, _, _, _, rfl, rfl, SqL.of h1, at2, _, _, rfl, rfl, .inl ⟨by decide, by decide⟩, _, _, rfl, rfl, .inl ⟨_, rfl, _, _, rfl, rfl, (by decide : (0 : Int) < 2147483579), ?_⟩⟩
      have x0 : 0 ≤ (((m + 48611 * (c + 1)) % 2147483579) * (((m + 48611 * (c + 1)) % 2147483579) % 6007 + 47513) + 29 * (c + 1)) % 2147483579 := Int.emod_nonneg _ (by decide)
      have x1 : (((m + 48611 * (c + 1)) % 2147483579) * (((m + 48611 * (c + 1)) % 2147483579) % 6007 + 47513) + 29 * (c + 1)) % 2147483579 < 2147483579 := Int.emod_lt_of_pos _ (by decide)
      refine ⟨_, rfl, w, _, 1, 1, rfl, rfl, h1, rfl, ?_⟩
      have h2 : upd (upd H w (.lst [.int n, .int m, .int (c + 1)])) w (.lst [.int n, .int ((((m + 48611 * (c + 1)) % 2147483579) * (((m + 48611 * (c + 1)) % 2147483579) % 6007 + 47513) + 29 * (c + 1)) % 2147483579), .int (c + 1)]) w = some (.lst [.int n, .int ((((m + 48611 * (c + 1)) % 2147483579) * (((m + 48611 * (c + 1)) % 2147483579) % 6007 + 47513) + 29 * (c + 1)) % 2147483579), .int (c + 1)]) := upd_same
      refine ⟨_, rfl, w, _, _, _, rfl, rfl, SqL.of h2, at1, _, _, rfl, rfl, ⟨by decide, by decide⟩, .inl ⟨_, rfl, _, rfl, _, _, rfl, rfl, hk, ?_⟩⟩
      exact q _ (c + 1) _ (Int.emod_nonneg _ (by omega)) (Int.emod_lt_of_pos _ hk) (Kw.put.trans Kw.put) ⟨n, _, h2, hn, x0, x1, by omega⟩ (by omega)
abbrev nWell : List Str := ["_law_script", "_law_turn", "_law_own", "_law_mixed", "_law_cell", "_law_first_one"]
theorem sc_nWell : FnScope nWell ["_law_script", "_law_turn"] (defScope (top 40)) := ⟨rfl, rfl, rfl, by decide +kernel, rfl, by decide +kernel, by decide +kernel⟩
theorem ok_well {f : Addr} {fd : FuncData} (F : FnP K "_law_well" (top 40) f fd) (T : Bl K mg) : FnOk P w K mg base CX0 1 f fd ["_law_script", "_law_turn"] (spWell K) := by
  refine F.ok sc_nWell (fun vs H Q E h => ?_) (fun cdv A outer s H vs Q E hr h => ?_)
  · obtain ⟨a, ns, t, rfl, _⟩ := h
    rfl
  · obtain ⟨a, ns, t, rfl, hS, t0, t1, q⟩ := h
    have sc := sc_nWell
    refine ⟨_, PSs.nox (pss_cons (ps_par (i := 2) (j := 3) (by rfl) sc.nd rfl rfl (by decide) rfl rfl (pa_cons (pe_ifExp (pt_cmpR op_lt (pv 1) (pe_callB call_len (by rfl) T.len (by decide +kernel) (pa_cons (pv 0) pa_nil)) (nomark _)) (pe_callTy call_int1 (by rfl) T.int (by decide +kernel) (pa_cons (pe_ix ix_list (pv 0) (pv 1) (fun _ _ => rfl)) pa_nil)) pe_int) (pa_cons (pe_op op_add pe_int (pe_op op_mul pe_int (pv 1))) pa_nil)) (by rfl)) (pss_cons (ps_for PassesOwn.never rfl (pi_list (pe_slice sl_list (pv 0) po_none (po_some pe_int))) (pg_name (i := 4) sc.nd rfl (Or.inl rfl)) (pss_one (ps_set (i := 3) sc.nd rfl (Or.inl rfl) (pe_op op_mod (pe_callTy call_int1 (by rfl) T.int (by decide +kernel) (pa_cons (pe_op op_add (pe_op op_add (pe_op op_mul (pv 3) pe_int) (pe_op op_mod (pe_callTy call_int1 (by rfl) T.int (by decide +kernel) (pa_cons (pv 4) pa_nil)) pe_int)) pe_int) pa_nil)) pe_int)))) (pss_cons (ps_set (i := 5) sc.nd rfl (Or.inl rfl) (pe_op op_mod (pe_callTy call_int1 (by rfl) T.int (by decide +kernel) (pa_cons (pe_op op_add (pe_op op_add (pe_op op_mul (pv 3) pe_int) (pe_op op_mul (pe_op op_mod (pe_callTy call_int1 (by rfl) T.int (by decide +kernel) (pa_cons (pv 2) pa_nil)) pe_int) pe_int)) pe_int) pa_nil)) pe_int)) (pss_one (ps_ret (pe_lst (pa_cons (pe_ifExp (PW.pt (pw_or (pt_cmpR op_lt (pv 2) pe_int (nomark _)) (pw_or1 (pt_cmpR op_ge (pv 2) (pe_op op_pow pe_int pe_int) (nomark _))))) (pe_callB call_abs (by rfl) T.abs (by decide +kernel) (pa_cons (pv 2) pa_nil)) pe_int) (pa_cons (pv 5) (pa_cons pe_int pa_nil))))))))), ?_⟩
    refine ⟨_, rfl, _, rfl, _, _, rfl, .inl ⟨_, hS, rfl⟩, _, _, rfl, rfl, _, rfl, ite2 (fun g => ?_) (fun g => ?_)⟩
    · have gl : t < ((ns.map V.int).length : Int) := of_decide_eq_true g
      obtain ⟨j, rfl⟩ := Int.eq_ofNat_of_zero_le t0
      have lj : j < ns.length := by
        rw [List.length_map] at gl
        omega
      have hj : (ns.map V.int)[j]? = some (V.int ns[j]) := by
        rw [List.getElem?_map, List.getElem?_eq_getElem lj]
        rfl
      refine ⟨_, rfl, _, rfl, a, _, _, _, rfl, rfl, hS, atI_nat hj, .inl ⟨_, rfl, ?_⟩⟩
      generalize ns[j] = ow
      generalize (j : Int) = t at t0 t1 ⊢
      refine ⟨_, rfl, _, _, rfl, rfl, .inl ⟨by decide, by decide⟩, _, _, rfl, rfl, ?_⟩
      refine ⟨_, _, rfl, ?_⟩
      refine ⟨_, rfl, _, rfl, a, _, rfl, hS, fun p hp => ?_⟩
      have s1 : Same H (upd H p (.lst (cutV (ns.map V.int) none (some 63)))) := Same.new hp
      refine ⟨p, rfl, ⟨_, SqL.of upd_same⟩, for_list (K := K) (a := p) (xs := cutV (ns.map V.int) none (some 63)) (fun i σ H' => H' = upd H p (.lst (cutV (ns.map V.int) none (some 63))) ∧ ∃ (m : Int) (v : Option V), σ = [some (.ref a), some (.int t), some (.int ow), some (.int m), v, none] ∧ 0 ≤ m ∧ m < 2147483579 + 1000000)
        ⟨rfl, _, none, rfl, by omega, by omega⟩ (fun i σ H' _ h => by rw [h.1]; exact SqL.of upd_same) ?_ ?_⟩
      · rintro i y σ H' hi ⟨rfl, m, v, rfl, m0, m1⟩
        obtain ⟨k, rfl⟩ := cut_ints ns none (some 63) y (List.mem_of_getElem? hi)
        refine ⟨_, rfl, _, _, rfl, rfl, .inl ⟨by omega, by omega⟩, _, rfl, .inl ⟨_, rfl, _, _, rfl, rfl, (by decide : (0 : Int) < 2147483399), _, _, rfl, rfl, _, _, rfl, rfl, .inl ⟨_, rfl, _, _, rfl, rfl, (by decide : (0 : Int) < 2147483579), ?_⟩⟩⟩
        exact ⟨rfl, _, _, rfl, Int.emod_nonneg _ (by decide), Int.lt_of_lt_of_le (Int.emod_lt_of_pos _ (by decide)) (by decide)⟩
      · rintro σ H' ⟨rfl, m, v, rfl, m0, m1⟩
        have fin2 : ∀ (x m2 : Int), 0 ≤ x → 0 ≤ m2 → m2 < 2147483579 → ∀ p2, upd H p (.lst (cutV (ns.map V.int) none (some 63))) p2 = none →
            Q (.ref p2) (upd (upd H p (.lst (cutV (ns.map V.int) none (some 63)))) p2 (.lst [.int x, .int m2, .int 0])) := fun x m2 x0 b0 b1 p2 hp2 =>
          q p2 _ (s1.free hp2) (s1.trans (Same.new hp2)) ⟨x, m2, upd_same, x0, b0, b1, Int.le_refl _⟩
        refine ⟨_, rfl, _, _, rfl, rfl, .inl ⟨by omega, by omega⟩, _, rfl, .inl ⟨_, rfl, _, _, rfl, rfl, (by decide : (0 : Int) < 2147483399), _, _, rfl, rfl, .inr ⟨by decide, by decide⟩, _, _, rfl, rfl, _, _, rfl, rfl, .inl ⟨_, rfl, _, _, rfl, rfl, (by decide : (0 : Int) < 2147483579), ?_⟩⟩⟩
        refine ⟨_, rfl, _, _, rfl, rfl, _, rfl, ite2 (fun c1 => ?_) (fun c1 => ?_)⟩
        · refine iteT ⟨_, rfl, _, rfl, _, rfl, (by show 3 ≤ sizeLine; decide), fun p2 hp2 => ?_⟩
          exact fin2 _ _ (by split <;> omega) (Int.emod_nonneg _ (by decide)) (Int.emod_lt_of_pos _ (by decide)) p2 hp2
        · refine ⟨_, rfl, _, _, rfl, rfl, ⟨by decide, by decide, by decide⟩, _, _, rfl, rfl, _, rfl, ite2 (fun c2 => ?_) (fun c2 => ?_)⟩
          · refine ⟨_, rfl, _, rfl, _, rfl, (by show 3 ≤ sizeLine; decide), fun p2 hp2 => ?_⟩
            exact fin2 _ _ (by split <;> omega) (Int.emod_nonneg _ (by decide)) (Int.emod_lt_of_pos _ (by decide)) p2 hp2
          · refine ⟨_, rfl, (by show 3 ≤ sizeLine; decide), fun p2 hp2 => ?_⟩
            exact fin2 _ _ (Int.le_refl _) (Int.emod_nonneg _ (by decide)) (Int.emod_lt_of_pos _ (by decide)) p2 hp2
    · skip
      refine ⟨_, rfl, _, _, rfl, rfl, .inl ⟨by decide, by decide⟩, _, _, rfl, rfl, ?_⟩
      refine ⟨_, _, rfl, ?_⟩
      refine ⟨_, rfl, _, rfl, a, _, rfl, hS, fun p hp => ?_⟩
      have s1 : Same H (upd H p (.lst (cutV (ns.map V.int) none (some 63)))) := Same.new hp
      refine ⟨p, rfl, ⟨_, SqL.of upd_same⟩, for_list (K := K) (a := p) (xs := cutV (ns.map V.int) none (some 63)) (fun i σ H' => H' = upd H p (.lst (cutV (ns.map V.int) none (some 63))) ∧ ∃ (m : Int) (v : Option V), σ = [some (.ref a), some (.int t), some (.int 0), some (.int m), v, none] ∧ 0 ≤ m ∧ m < 2147483579 + 1000000)
        ⟨rfl, _, none, rfl, by omega, by omega⟩ (fun i σ H' _ h => by rw [h.1]; exact SqL.of upd_same) ?_ ?_⟩
      · rintro i y σ H' hi ⟨rfl, m, v, rfl, m0, m1⟩
        obtain ⟨k, rfl⟩ := cut_ints ns none (some 63) y (List.mem_of_getElem? hi)
        refine ⟨_, rfl, _, _, rfl, rfl, .inl ⟨by omega, by omega⟩, _, rfl, .inl ⟨_, rfl, _, _, rfl, rfl, (by decide : (0 : Int) < 2147483399), _, _, rfl, rfl, _, _, rfl, rfl, .inl ⟨_, rfl, _, _, rfl, rfl, (by decide : (0 : Int) < 2147483579), ?_⟩⟩⟩
        exact ⟨rfl, _, _, rfl, Int.emod_nonneg _ (by decide), Int.lt_of_lt_of_le (Int.emod_lt_of_pos _ (by decide)) (by decide)⟩
      · rintro σ H' ⟨rfl, m, v, rfl, m0, m1⟩
        have fin2 : ∀ (x m2 : Int), 0 ≤ x → 0 ≤ m2 → m2 < 2147483579 → ∀ p2, upd H p (.lst (cutV (ns.map V.int) none (some 63))) p2 = none →
            Q (.ref p2) (upd (upd H p (.lst (cutV (ns.map V.int) none (some 63)))) p2 (.lst [.int x, .int m2, .int 0])) := fun x m2 x0 b0 b1 p2 hp2 =>
          q p2 _ (s1.free hp2) (s1.trans (Same.new hp2)) ⟨x, m2, upd_same, x0, b0, b1, Int.le_refl _⟩
        refine ⟨_, rfl, _, _, rfl, rfl, .inl ⟨by omega, by omega⟩, _, rfl, .inl ⟨_, rfl, _, _, rfl, rfl, (by decide : (0 : Int) < 2147483399), _, _, rfl, rfl, .inr ⟨by decide, by decide⟩, _, _, rfl, rfl, _, _, rfl, rfl, .inl ⟨_, rfl, _, _, rfl, rfl, (by decide : (0 : Int) < 2147483579), ?_⟩⟩⟩
        refine ⟨_, rfl, _, _, rfl, rfl, _, rfl, ite2 (fun c1 => ?_) (fun c1 => ?_)⟩
        · refine iteT ⟨_, rfl, _, rfl, _, rfl, (by show 3 ≤ sizeLine; decide), fun p2 hp2 => ?_⟩
          exact fin2 _ _ (by split <;> omega) (Int.emod_nonneg _ (by decide)) (Int.emod_lt_of_pos _ (by decide)) p2 hp2
        · refine ⟨_, rfl, _, _, rfl, rfl, ⟨by decide, by decide, by decide⟩, _, _, rfl, rfl, _, rfl, ite2 (fun c2 => ?_) (fun c2 => ?_)⟩
          · refine ⟨_, rfl, _, rfl, _, rfl, (by show 3 ≤ sizeLine; decide), fun p2 hp2 => ?_⟩
            exact fin2 _ _ (by split <;> omega) (Int.emod_nonneg _ (by decide)) (Int.emod_lt_of_pos _ (by decide)) p2 hp2
          · refine ⟨_, rfl, (by show 3 ≤ sizeLine; decide), fun p2 hp2 => ?_⟩
            exact fin2 _ _ (Int.le_refl _) (Int.emod_nonneg _ (by decide)) (Int.emod_lt_of_pos _ (by decide)) p2 hp2
end
end N3
namespace N3
open PySem PySem.Spec PyProof.Rows L2 KB
section
variable {K : PySem.W.Frag} {mg : Str → Option Value} {base : Heap} {P : Program} {w : World}
abbrev nPick : List Str := ["_law_well_here", "_law_some"]
theorem sc_nPick : FnScope nPick ["_law_well_here", "_law_some"] (defScope (top 42)) := ⟨rfl, rfl, rfl, by decide +kernel, rfl, by decide +kernel, by decide +kernel⟩
theorem ok_pick {f : Addr} {fd : FuncData} (F : FnP K "_law_pick" (top 42) f fd) (T : Bl K mg) (hDip : Has P w K mg base "_law_dip" ["_law_well_here", "_law_top"] 1 spDraw) : FnOk P w K mg base CX0 2 f fd ["_law_well_here", "_law_some"] (spPick K) := by
  obtain ⟨fDip, fdDip, kDip, gDip, bDip, GDip⟩ := hDip
  refine F.ok sc_nPick (fun vs H Q E h => ?_) (fun cdv A outer s H vs Q E hr h => ?_)
  · obtain ⟨w, t, xs, c, rfl, _⟩ := h
    rfl
  · obtain ⟨w, t, xs, c, rfl, hw, hc, hS, h0, h1, q⟩ := h
    have sc := sc_nPick
    have hrDip : Room 1 _ := hr
    refine ⟨_, PSs.nox (pss_one (ps_ret (pe_ix ix_tup (pv 1) (pe_call GDip hrDip rfl gDip kDip bDip .nil pass0 (pa_cons (pv 0) (pa_cons (pe_callB call_len (by rfl) T.len (by decide +kernel) (pa_cons (pv 1) pa_nil)) pa_nil))) (fun _ _ => rfl)))), ?_⟩
    refine ⟨_, rfl, _, rfl, _, rfl, _, _, rfl, .inr ⟨_, hS, rfl⟩, w, _, c, rfl, hw, hc, by omega, by omega, fun r c' H' r0 r1 kw hw' hc' => ?_⟩
    obtain ⟨j, rfl⟩ := Int.eq_ofNat_of_zero_le r0
    have lj : j < xs.length := by omega
    exact ⟨t, xs, _, xs[j], rfl, rfl, kw.seqT hw hS, atI_nat (List.getElem?_eq_getElem lj), q j _ c' H' (List.getElem?_eq_getElem lj) kw hw' hc'⟩
def spPickL : Sp := fun vs H Q _ => ∃ (w t : Addr) (xs : List V) (c : Int), vs = [.ref w, .ref t] ∧ Wl H w c ∧ c < 2 ^ 60 ∧ H t = some (.lst xs) ∧ t ≠ w ∧ 0 < xs.length ∧ xs.length ≤ 1000 ∧
  ∀ (i : Nat) (v : V) (c' : Int) (H' : Hp), xs[i]? = some v → Kw w H H' → Wl H' w c' → c' ≤ c + 1 → Q v H'
theorem ok_pickL {f : Addr} {fd : FuncData} (F : FnP K "_law_pick" (top 42) f fd) (T : Bl K mg) (hDip : Has P w K mg base "_law_dip" ["_law_well_here", "_law_top"] 1 spDraw) : FnOk P w K mg base CX0 2 f fd ["_law_well_here", "_law_some"] spPickL := by
  obtain ⟨fDip, fdDip, kDip, gDip, bDip, GDip⟩ := hDip
  refine F.ok sc_nPick (fun vs H Q E h => ?_) (fun cdv A outer s H vs Q E hr h => ?_)
  · obtain ⟨w, t, xs, c, rfl, _⟩ := h
    rfl
  · obtain ⟨w, t, xs, c, rfl, hw, hc, hS, tw, h0, h1, q⟩ := h
    have sc := sc_nPick
    have hrDip : Room 1 _ := hr
    refine ⟨_, PSs.nox (pss_one (ps_ret (pe_ix ix_list (pv 1) (pe_call GDip hrDip rfl gDip kDip bDip .nil pass0 (pa_cons (pv 0) (pa_cons (pe_callB call_len (by rfl) T.len (by decide +kernel) (pa_cons (pv 1) pa_nil)) pa_nil))) (fun _ _ => rfl)))), ?_⟩
    refine ⟨_, rfl, _, rfl, _, rfl, _, _, rfl, .inl ⟨_, SqL.of hS, rfl⟩, w, _, c, rfl, hw, hc, by omega, by omega, fun r c' H' r0 r1 kw hw' hc' => ?_⟩
    obtain ⟨j, rfl⟩ := Int.eq_ofNat_of_zero_le r0
    have lj : j < xs.length := by omega
    exact ⟨t, xs, _, xs[j], rfl, rfl, SqL.of (kw t _ tw hS), atI_nat (List.getElem?_eq_getElem lj), q j _ c' H' (List.getElem?_eq_getElem lj) kw hw' hc'⟩
abbrev nSame : List Str := ["_law_gave", "_law_due"]
abbrev nIs_ : List Str := ["_law_gave", "_law_due"]
theorem sc_nIs_ : FnScope nIs_ ["_law_gave", "_law_due"] (defScope (top 43)) := ⟨rfl, rfl, rfl, by decide +kernel, rfl, by decide +kernel, by decide +kernel⟩
theorem ok_is {f : Addr} {fd : FuncData} (F : FnP K "_law_is" (top 43) f fd) (T : Bl K mg) : FnG P w K mg base 1 f fd ["_law_gave", "_law_due"] spSame := by
  refine okG F sc_nIs_ (fun vs H Q h => ?_) (fun cdv A outer s H vs Q hgd hr h => ?_)
  · obtain ⟨F, x, y, d, rfl, _⟩ := h
    rfl
  · obtain ⟨F, x, y, d, rfl, dx, dy, sh, dp, zz, q⟩ := h
    have sc := sc_nIs_
    refine ⟨_, (pss_one (ps_ret (pe_cmpR op_eq (pe_callB (call_reprL T.sys hgd hr) (by rfl) T.repr (by decide +kernel) (pa_cons (pv 0) pa_nil)) (pe_callB (call_reprL T.sys hgd hr) (by rfl) T.repr (by decide +kernel) (pa_cons (pv 1) pa_nil)) (nomark _)))), ?_⟩
    refine ⟨_, rfl, F, x, d, rfl, dx, sh, dp, zz, _, rfl, F, y, d, rfl, dy, sh, dp, zz, rfl, ?_⟩
    have e : decide (V.str d.shown = V.str d.shown) = true := decide_eq_true rfl
    show Q (.bl (decide (V.str d.shown = V.str d.shown))) H
    rw [e]
    exact q
def spTruth : Sp := fun vs H Q _ => vs = [] ∧ ∀ v H', Same H H' → Dt (New H) H' v (Kd.eith .unit .unit).d → Q v H'
abbrev nTruth : List Str := []
theorem sc_nTruth : FnScope nTruth [] (defScope (top 44)) := ⟨rfl, rfl, rfl, by decide +kernel, rfl, by decide +kernel, by decide +kernel⟩
theorem ok_truth {f : Addr} {fd : FuncData} (F : FnP K "_law_truth" (top 44) f fd) : FnOk P w K mg base CX0 1 f fd [] spTruth := by
  refine F.ok sc_nTruth (fun vs H Q E h => ?_) (fun cdv A outer s H vs Q E hr h => ?_)
  · obtain ⟨rfl, _⟩ := h
    rfl
  · obtain ⟨rfl, q⟩ := h
    have sc := sc_nTruth
    refine ⟨_, PSs.nox (pss_one (ps_ret (pe_tup (pa_cons pe_str (pa_cons (pe_tup (pa_cons pe_str pa_nil)) (pa_cons (pe_tup (pa_cons pe_str pa_nil)) pa_nil)))))), ?_⟩
    have d1 : DE (tTup _) (.tuple [.str "either", .tuple [.str "unit"], .tuple [.str "unit"]]) := de_tup (da_cons (de_str _) (da_cons (de_tup (da_cons (de_str _) da_nil) (by decide)) (da_cons (de_tup (da_cons (de_str _) da_nil) (by decide)) da_nil))) (by decide)
    exact d1 _ H _ fun v H1 s1 t1 => q v H1 s1 t1
def namesL : List PyData := [(.tuple [(.str "a")]), (.tuple [(.str "b")]), (.tuple [(.str "a"), (.str "b")]), (.tuple [(.str "a"), (.str "c")]), (.tuple [(.str "b"), (.str "c")]), (.tuple [(.str "a"), (.str "b"), (.str "c")]), (.tuple [(.str "c")])]
abbrev nNames : List Str := ["_law_well_here"]
theorem sc_nNames : FnScope nNames ["_law_well_here"] (defScope (top 45)) := ⟨rfl, rfl, rfl, by decide +kernel, rfl, by decide +kernel, by decide +kernel⟩
theorem ok_names {f : Addr} {fd : FuncData} (F : FnP K "_law_names" (top 45) f fd) (hPick : Has P w K mg base "_law_pick" ["_law_well_here", "_law_some"] 2 (spPick K)) : FnOk P w K mg base CX0 3 f fd ["_law_well_here"] (spOdd namesL) := by
  obtain ⟨fPick, fdPick, kPick, gPick, bPick, GPick⟩ := hPick
  refine F.ok sc_nNames (fun vs H Q E h => ?_) (fun cdv A outer s H vs Q E hr h => ?_)
  · obtain ⟨w, c, rfl, _⟩ := h
    rfl
  · obtain ⟨w, c, rfl, hw, hc, q⟩ := h
    have sc := sc_nNames
    have hrPick : Room 2 _ := hr
    refine ⟨_, PSs.nox (pss_one (ps_ret (pe_call GPick hrPick rfl gPick kPick bPick .nil pass0 (pa_cons (pv 0) (pa_cons (pe_tup (pa_cons (pe_tup (pa_cons pe_str pa_nil)) (pa_cons (pe_tup (pa_cons pe_str pa_nil)) (pa_cons (pe_tup (pa_cons pe_str (pa_cons pe_str pa_nil))) (pa_cons (pe_tup (pa_cons pe_str (pa_cons pe_str pa_nil))) (pa_cons (pe_tup (pa_cons pe_str (pa_cons pe_str pa_nil))) (pa_cons (pe_tup (pa_cons pe_str (pa_cons pe_str (pa_cons pe_str pa_nil)))) (pa_cons (pe_tup (pa_cons pe_str pa_nil)) pa_nil)))))))) pa_nil))))), ?_⟩
    have d1 : DE (tTup _) (.tuple namesL) := (de_tup (da_cons (de_tup (da_cons (de_str _) da_nil) (by decide)) (da_cons (de_tup (da_cons (de_str _) da_nil) (by decide)) (da_cons (de_tup (da_cons (de_str _) (da_cons (de_str _) da_nil)) (by decide)) (da_cons (de_tup (da_cons (de_str _) (da_cons (de_str _) da_nil)) (by decide)) (da_cons (de_tup (da_cons (de_str _) (da_cons (de_str _) da_nil)) (by decide)) (da_cons (de_tup (da_cons (de_str _) (da_cons (de_str _) (da_cons (de_str _) da_nil))) (by decide)) (da_cons (de_tup (da_cons (de_str _) da_nil) (by decide)) da_nil))))))) (by decide))
    refine ⟨_, rfl, d1 _ H _ fun v H1 s1 t1 => ?_⟩
    obtain ⟨t, xs, rfl, ft, ht, rt⟩ := t1.tupI
    have ll := rt.length
    refine ⟨w, t, xs, c, rfl, hw.same s1, hc, SqT.of ht, by rw [ll]; decide, by rw [ll]; decide, fun i u c2 H2 hi k2 w2 e2 => ?_⟩
    obtain ⟨d, hd, td⟩ := rt.get hi
    exact q i u d c2 H2 hd (k2.data hw.some td) ((Kw.same s1).trans k2) w2 e2
def oddL3 : List PyData := [.none, (.bool true), (.bool false), (.int 0), (.int 1), (.int (-1)), (.str ""), (.str "a"), (.str "b"), (.str "d"), (.str "num"), (.str "left"), (.tuple []), (.tuple [(.int 0)]), (.list []), (.dict []), (.tuple [(.str "num")]), (.tuple [(.int 0), (.int 0)]), (.tuple [(.str "unit")]), (.tuple [(.str "var"), (.str "a")]), (.tuple [(.str "list"), (.tuple [(.str "num")])]), (.list [(.str "a")]), (.tuple [(.str "left"), (.tuple [])]), (.tuple [(.str "right"), (.int 1)]), (.tuple [(.tuple []), (.tuple [])]), (.tuple [(.str "pair"), (.int 0), (.int 1)]), (.tuple [(.str "either"), (.tuple [(.str "unit")])]), (.tuple [(.str "list"), (.tuple [(.str "var"), (.str "b")])]), (.tuple [(.str "fun"), (.tuple [(.str "num")]), (.tuple [(.str "num")])]), (.tuple [(.tuple [(.int 0), (.int 0)])]), (.tuple [(.str "a"), (.tuple [(.str "num")]), (.tuple [(.str "num")]), (.tuple [])]), (.tuple [(.str "c"), (.tuple [(.str "unit")]), (.tuple [(.str "num")]), (.tuple [(.tuple [(.tuple []), (.int 4)])])])]
abbrev nOdd_ : List Str := ["_law_well_here"]
theorem sc_nOdd_ : FnScope nOdd_ ["_law_well_here"] (defScope (top 54)) := ⟨rfl, rfl, rfl, by decide +kernel, rfl, by decide +kernel, by decide +kernel⟩
theorem ok_odd {f : Addr} {fd : FuncData} (F : FnP K "_law_odd" (top 54) f fd) (hPick : Has P w K mg base "_law_pick" ["_law_well_here", "_law_some"] 2 (spPick K)) : FnOk P w K mg base CX0 3 f fd ["_law_well_here"] (spOdd oddL3) := by
  obtain ⟨fPick, fdPick, kPick, gPick, bPick, GPick⟩ := hPick
  refine F.ok sc_nOdd_ (fun vs H Q E h => ?_) (fun cdv A outer s H vs Q E hr h => ?_)
  · obtain ⟨w, c, rfl, _⟩ := h
    rfl
  · obtain ⟨w, c, rfl, hw, hc, q⟩ := h
    have sc := sc_nOdd_
    have hrPick : Room 2 _ := hr
    refine ⟨_, PSs.nox (pss_one (ps_ret (pe_call GPick hrPick rfl gPick kPick bPick .nil pass0 (pa_cons (pv 0) (pa_cons (pe_tup (pa_cons pe_non (pa_cons pe_bl (pa_cons pe_bl (pa_cons pe_int (pa_cons pe_int (pa_cons (pe_un un_neg pe_int) (pa_cons pe_str (pa_cons pe_str (pa_cons pe_str (pa_cons pe_str (pa_cons pe_str (pa_cons pe_str (pa_cons (pe_tup pa_nil) (pa_cons (pe_tup (pa_cons pe_int pa_nil)) (pa_cons (pe_lst pa_nil) (pa_cons pe_dnewK (pa_cons (pe_tup (pa_cons pe_str pa_nil)) (pa_cons (pe_tup (pa_cons pe_int (pa_cons pe_int pa_nil))) (pa_cons (pe_tup (pa_cons pe_str pa_nil)) (pa_cons (pe_tup (pa_cons pe_str (pa_cons pe_str pa_nil))) (pa_cons (pe_tup (pa_cons pe_str (pa_cons (pe_tup (pa_cons pe_str pa_nil)) pa_nil))) (pa_cons (pe_lst (pa_cons pe_str pa_nil)) (pa_cons (pe_tup (pa_cons pe_str (pa_cons (pe_tup pa_nil) pa_nil))) (pa_cons (pe_tup (pa_cons pe_str (pa_cons pe_int pa_nil))) (pa_cons (pe_tup (pa_cons (pe_tup pa_nil) (pa_cons (pe_tup pa_nil) pa_nil))) (pa_cons (pe_tup (pa_cons pe_str (pa_cons pe_int (pa_cons pe_int pa_nil)))) (pa_cons (pe_tup (pa_cons pe_str (pa_cons (pe_tup (pa_cons pe_str pa_nil)) pa_nil))) (pa_cons (pe_tup (pa_cons pe_str (pa_cons (pe_tup (pa_cons pe_str (pa_cons pe_str pa_nil))) pa_nil))) (pa_cons (pe_tup (pa_cons pe_str (pa_cons (pe_tup (pa_cons pe_str pa_nil)) (pa_cons (pe_tup (pa_cons pe_str pa_nil)) pa_nil)))) (pa_cons (pe_tup (pa_cons (pe_tup (pa_cons pe_int (pa_cons pe_int pa_nil))) pa_nil)) (pa_cons (pe_tup (pa_cons pe_str (pa_cons (pe_tup (pa_cons pe_str pa_nil)) (pa_cons (pe_tup (pa_cons pe_str pa_nil)) (pa_cons (pe_tup pa_nil) pa_nil))))) (pa_cons (pe_tup (pa_cons pe_str (pa_cons (pe_tup (pa_cons pe_str pa_nil)) (pa_cons (pe_tup (pa_cons pe_str pa_nil)) (pa_cons (pe_tup (pa_cons (pe_tup (pa_cons (pe_tup pa_nil) (pa_cons pe_int pa_nil))) pa_nil)) pa_nil))))) pa_nil))))))))))))))))))))))))))))))))) pa_nil))))), ?_⟩
    have d1 : DE (tTup _) (.tuple oddL3) := (de_tup (da_cons de_non (da_cons (de_bl _) (da_cons (de_bl _) (da_cons (de_int _) (da_cons (de_int _) (da_cons (de_neg _) (da_cons (de_str _) (da_cons (de_str _) (da_cons (de_str _) (da_cons (de_str _) (da_cons (de_str _) (da_cons (de_str _) (da_cons (de_tup da_nil (by decide)) (da_cons (de_tup (da_cons (de_int _) da_nil) (by decide)) (da_cons (de_lst da_nil (by decide)) (da_cons de_emp (da_cons (de_tup (da_cons (de_str _) da_nil) (by decide)) (da_cons (de_tup (da_cons (de_int _) (da_cons (de_int _) da_nil)) (by decide)) (da_cons (de_tup (da_cons (de_str _) da_nil) (by decide)) (da_cons (de_tup (da_cons (de_str _) (da_cons (de_str _) da_nil)) (by decide)) (da_cons (de_tup (da_cons (de_str _) (da_cons (de_tup (da_cons (de_str _) da_nil) (by decide)) da_nil)) (by decide)) (da_cons (de_lst (da_cons (de_str _) da_nil) (by decide)) (da_cons (de_tup (da_cons (de_str _) (da_cons (de_tup da_nil (by decide)) da_nil)) (by decide)) (da_cons (de_tup (da_cons (de_str _) (da_cons (de_int _) da_nil)) (by decide)) (da_cons (de_tup (da_cons (de_tup da_nil (by decide)) (da_cons (de_tup da_nil (by decide)) da_nil)) (by decide)) (da_cons (de_tup (da_cons (de_str _) (da_cons (de_int _) (da_cons (de_int _) da_nil))) (by decide)) (da_cons (de_tup (da_cons (de_str _) (da_cons (de_tup (da_cons (de_str _) da_nil) (by decide)) da_nil)) (by decide)) (da_cons (de_tup (da_cons (de_str _) (da_cons (de_tup (da_cons (de_str _) (da_cons (de_str _) da_nil)) (by decide)) da_nil)) (by decide)) (da_cons (de_tup (da_cons (de_str _) (da_cons (de_tup (da_cons (de_str _) da_nil) (by decide)) (da_cons (de_tup (da_cons (de_str _) da_nil) (by decide)) da_nil))) (by decide)) (da_cons (de_tup (da_cons (de_tup (da_cons (de_int _) (da_cons (de_int _) da_nil)) (by decide)) da_nil) (by decide)) (da_cons (de_tup (da_cons (de_str _) (da_cons (de_tup (da_cons (de_str _) da_nil) (by decide)) (da_cons (de_tup (da_cons (de_str _) da_nil) (by decide)) (da_cons (de_tup da_nil (by decide)) da_nil)))) (by decide)) (da_cons (de_tup (da_cons (de_str _) (da_cons (de_tup (da_cons (de_str _) da_nil) (by decide)) (da_cons (de_tup (da_cons (de_str _) da_nil) (by decide)) (da_cons (de_tup (da_cons (de_tup (da_cons (de_tup da_nil (by decide)) (da_cons (de_int _) da_nil)) (by decide)) da_nil) (by decide)) da_nil)))) (by decide)) da_nil)))))))))))))))))))))))))))))))) (by decide))
    refine ⟨_, rfl, d1 _ H _ fun v H1 s1 t1 => ?_⟩
    obtain ⟨t, xs, rfl, ft, ht, rt⟩ := t1.tupI
    have ll := rt.length
    refine ⟨w, t, xs, c, rfl, hw.same s1, hc, SqT.of ht, by rw [ll]; decide, by rw [ll]; decide, fun i u c2 H2 hi k2 w2 e2 => ?_⟩
    obtain ⟨d, hd, td⟩ := rt.get hi
    exact q i u d c2 H2 hd (k2.data hw.some td) ((Kw.same s1).trans k2) w2 e2
end
end N3
namespace N3
open PySem PySem.Spec PyProof.Rows L2 KB
section
variable {K : PySem.W.Frag} {mg : Str → Option Value} {base : Heap} {P : Program} {w : World}
def spNu : Sp := fun vs H Q _ => ∃ (w : Addr) (c : Int), vs = [.ref w] ∧ Wl H w c ∧ c + 4 < 2 ^ 60 ∧
  ∀ (i c' : Int) (H' : Hp), i.natAbs ≤ bg → Kw w H H' → Wl H' w c' → c' ≤ c + 4 → Q (.int i) H'
theorem sml {i : Int} (h : -100 ≤ i ∧ i ≤ 100) : i.natAbs ≤ bg := bg_big (by omega)
abbrev nNumber : List Str := ["_law_well_here", "_law_way", "_law_great"]
theorem sc_nNumber : FnScope nNumber ["_law_well_here"] (defScope (top 46)) := ⟨rfl, rfl, rfl, by decide +kernel, rfl, by decide +kernel, by decide +kernel⟩
theorem ok_number {f : Addr} {fd : FuncData} (F : FnP K "_law_number" (top 46) f fd) (hDip : Has P w K mg base "_law_dip" ["_law_well_here", "_law_top"] 1 spDraw) (hPick : Has P w K mg base "_law_pick" ["_law_well_here", "_law_some"] 2 (spPick K)) : FnOk P w K mg base CX0 3 f fd ["_law_well_here"] spNu := by
  obtain ⟨fDip, fdDip, kDip, gDip, bDip, GDip⟩ := hDip
  obtain ⟨fPick, fdPick, kPick, gPick, bPick, GPick⟩ := hPick
  refine F.ok sc_nNumber (fun vs H Q E h => ?_) (fun cdv A outer s H vs Q E hr h => ?_)
  · obtain ⟨w, c, rfl, _⟩ := h
    rfl
  · obtain ⟨w, c, rfl, hw, hc, q⟩ := h
    have sc := sc_nNumber
    have hrDip : Room 1 _ := hr.mono (by omega)
    have hrPick : Room 2 _ := hr
    refine ⟨_, PSs.nox (pss_cons (ps_set (i := 1) sc.nd rfl (Or.inl rfl) (pe_call GDip hrDip rfl gDip kDip bDip .nil pass0 (pa_cons (pv 0) (pa_cons pe_int pa_nil)))) (pss_cons (ps_if (pt_cmpR op_eq (pv 1) pe_int (nomark _)) (pss_cons (ps_set (i := 2) sc.nd rfl (Or.inl rfl) (pe_call GPick hrPick rfl gPick kPick bPick .nil pass0 (pa_cons (pv 0) (pa_cons (pe_tup (pa_cons pe_int (pa_cons (pe_op op_pow pe_int pe_int) (pa_cons (pe_op op_pow pe_int pe_int) (pa_cons (pe_op op_pow pe_int pe_int) pa_nil))))) pa_nil)))) (pss_one (ps_ret (pe_op op_add (pe_op op_mul (pe_op op_sub (pe_call GDip hrDip rfl gDip kDip bDip .nil pass0 (pa_cons (pv 0) (pa_cons pe_int pa_nil))) pe_int) (pv 2)) (pe_call GDip hrDip rfl gDip kDip bDip .nil pass0 (pa_cons (pv 0) (pa_cons pe_int pa_nil))))))) pss_nil) (pss_one (ps_ret (pe_ifExp (pt_cmpR op_lt (pv 1) pe_int (nomark _)) (pe_call GDip hrDip rfl gDip kDip bDip .nil pass0 (pa_cons (pv 0) (pa_cons pe_int pa_nil))) (pe_op op_sub (pe_call GDip hrDip rfl gDip kDip bDip .nil pass0 (pa_cons (pv 0) (pa_cons pe_int pa_nil))) pe_int)))))), ?_⟩
    refine ⟨_, rfl, w, 16, c, rfl, hw, by omega, by decide, by decide, fun b c1 H1 b0 b1 k1 w1 e1 => ?_⟩
    refine ⟨_, rfl, rfl, _, rfl, ite2 (fun g => ?_) (fun g => ?_)⟩
    · have d1 : DE (tTup _) (.tuple [.int 1, .int (10 ^ 6), .int (10 ^ 12), .int (10 ^ 40)]) := de_tup (da_cons (de_int _) (da_cons (de_pow (i := 10) (j := 6) ⟨by decide, by decide, by decide⟩) (da_cons (de_pow (i := 10) (j := 12) ⟨by decide, by decide, by decide⟩) (da_cons (de_pow (i := 10) (j := 40) ⟨by decide, by decide, by decide⟩) da_nil)))) (by decide)
      refine ⟨_, rfl, d1 _ H1 _ fun v H2 s2 t2 => ?_⟩
      obtain ⟨t, xs, rfl, ft, ht, rt⟩ := t2.tupI
      have ll := rt.length
      refine ⟨w, t, xs, c1, rfl, w1.same s2, by omega, SqT.of ht, by rw [ll]; decide, by rw [ll]; decide, fun i u c2 H3 hi k2 w2 e2 => ?_⟩
      obtain ⟨d, hd, td⟩ := rt.get hi
      obtain ⟨gr, rfl, g1⟩ : ∃ gr : Int, d = .int gr ∧ gr.natAbs ≤ 10 ^ 40 := by
        match i, hd with
        | 0, hd => exact ⟨1, (Option.some.inj hd).symm, by decide⟩
        | 1, hd => exact ⟨10 ^ 6, (Option.some.inj hd).symm, by decide⟩
        | 2, hd => exact ⟨10 ^ 12, (Option.some.inj hd).symm, by decide⟩
        | 3, hd => exact ⟨10 ^ 40, (Option.some.inj hd).symm, by decide⟩
      have eu := td.intI
      subst eu
      refine ⟨_, rfl, w, 2001, c2, rfl, w2, by omega, by decide, by decide, fun r c3 H4 r0 r1 k3 w3 e3 => ?_⟩
      refine ⟨_, _, rfl, rfl, _, rfl, _, _, rfl, rfl, .inl ⟨by omega, by omega⟩, ?_⟩
      refine ⟨_, rfl, w, 5, c3, rfl, w3, by omega, by decide, by decide, fun z c4 H5 z0 z1 k4 w4 e4 => ?_⟩
      refine ⟨_, _, rfl, rfl, q _ c4 H5 ?_ (k1.trans ((Kw.same s2).trans (k2.trans (k3.trans k4)))) w4 (by omega)⟩
      have h1 : (r - 1000).natAbs ≤ 1000 := by omega
      have h2 : ((r - 1000) * gr).natAbs ≤ 1000 * 10 ^ 40 := by
        rw [Int.natAbs_mul]
        exact Nat.mul_le_mul h1 g1
      have h3 := Int.natAbs_add_le ((r - 1000) * gr) z
      have h4 : z.natAbs ≤ 4 := by omega
      have h5 : 1000 * 10 ^ 40 + 4 ≤ bg := by unfold bg; decide +kernel
      exact Nat.le_trans h3 (Nat.le_trans (Nat.add_le_add h2 h4) h5)
    · refine ⟨_, rfl, _, _, rfl, rfl, _, rfl, ite2 (fun g => ?_) (fun g => ?_)⟩
      · refine ⟨_, rfl, w, 4, c1, rfl, w1, by omega, by decide, by decide, fun z c2 H2 z0 z1 k2 w2 e2 => ?_⟩
        exact q _ c2 H2 (sml (by omega)) (k1.trans k2) w2 (by omega)
      · refine ⟨_, rfl, w, 13, c1, rfl, w1, by omega, by decide, by decide, fun z c2 H2 z0 z1 k2 w2 e2 => ?_⟩
        refine ⟨_, _, rfl, rfl, q _ c2 H2 (sml (by omega)) (k1.trans k2) w2 (by omega)⟩
theorem way_draw {σ : L2.St} {H : Hp} {w : Addr} {n : Nat} {c a b : Int} {Q : VK} (h0 : σ[0]? = some (some (V.ref w))) (h1 : σ[1]? = some (some (V.int n))) (hw : Wl H w c) (hc : c < 2 ^ 60) (ha : 0 < a ∧ a < 2 ^ 29) (hb : 0 < b ∧ b < 2 ^ 29)
    (h : ∀ (z c1 : Int) (H1 : Hp), 0 ≤ z → (z < b ∨ (0 < n ∧ z < a)) → Kw w H H1 → Wl H1 w c1 → c1 ≤ c + 1 → Q (.int z) H1) :
    tIf (tTest (tOp (rI0 fun i j => V.bl (decide (j < i))) (tVar 1) (tC (V.int 0)))) (tCall spDraw [] E0 (tCons (tVar 0) (tCons (tC (V.int a)) tNil))) (tCall spDraw [] E0 (tCons (tVar 0) (tCons (tC (V.int b)) tNil))) σ H Q := by
  refine ⟨_, h1, _, _, rfl, rfl, _, rfl, ite2 (fun g => ?_) (fun g => ?_)⟩
  · have gn : 0 < (n : Int) := of_decide_eq_true g
    exact ⟨_, h0, w, a, c, rfl, hw, hc, ha.1, ha.2, fun b c1 H1 b0 b1 k1 w1 e1 => h b c1 H1 b0 (.inr ⟨by omega, b1⟩) k1 w1 e1⟩
  · exact ⟨_, h0, w, b, c, rfl, hw, hc, hb.1, hb.2, fun b c1 H1 b0 b1 k1 w1 e1 => h b c1 H1 b0 (.inl b1) k1 w1 e1⟩
def spCl (n : Nat) : Sp := fun vs H Q _ => ∃ (w : Addr) (c : Int), vs = [.ref w, .int n] ∧ Wl H w c ∧ c + Ck n < 2 ^ 60 ∧
  ∀ (v : V) (k : Kd) (c' : Int) (H' : Hp), Dt (Nw w) H' v k.d → k.dep ≤ n + 1 → k.closed = true → k.noFn = true → Kw w H H' → Wl H' w c' → c' ≤ c + Ck n → Q v H'
abbrev nClosed : List Str := ["_law_well_here", "_law_left", "_law_way", "_law_lead"]
theorem sc_nClosed : FnScope nClosed ["_law_well_here", "_law_left"] (defScope (top 47)) := ⟨rfl, rfl, rfl, by decide +kernel, rfl, by decide +kernel, by decide +kernel⟩
theorem closed_body (n : Nat) {f : Addr} {fd : FuncData} {spR : Sp} (F : FnP K "_law_closed" (top 47) f fd) (hDip : Has P w K mg base "_law_dip" ["_law_well_here", "_law_top"] 1 spDraw) (hTruth : Has P w K mg base "_law_truth" [] 1 spTruth)
    (gR : mg "_law_closed" = some (.ref f)) (bR : Binds K fd ["_law_well_here", "_law_left"] []) (GR : FnOk P w K mg base CX0 (1 + n) f fd ["_law_well_here", "_law_left"] spR)
    (hR : ∀ m, n = m + 1 → ∀ vs H Q, spCl m vs H Q E0 → spR vs H Q E0) : FnOk P w K mg base CX0 (1 + n + 1) f fd ["_law_well_here", "_law_left"] (spCl n) := by
  obtain ⟨fDip, fdDip, kDip, gDip, bDip, GDip⟩ := hDip
  obtain ⟨fTruth, fdTruth, kTruth, gTruth, bTruth, GTruth⟩ := hTruth
  refine F.ok sc_nClosed (fun vs H Q E h => ?_) (fun cdv A outer s H vs Q E hr h => ?_)
  · obtain ⟨w, c, rfl, _⟩ := h
    rfl
  · obtain ⟨w, c, rfl, hw, hc, q⟩ := h
    have sc := sc_nClosed
    have hrDip : Room 1 _ := hr.mono (by omega)
    have hrTruth : Room 1 _ := hr.mono (by omega)
    have hrR : Room (1 + n) _ := hr
    have t2 := Ck_ge n
    refine ⟨_, PSs.nox (pss_cons (ps_set (i := 2) sc.nd rfl (Or.inl rfl) (pe_ifExp (pt_cmpR op_gt (pv 1) pe_int (nomark _)) (pe_call GDip hrDip rfl gDip kDip bDip .nil pass0 (pa_cons (pv 0) (pa_cons pe_int pa_nil))) (pe_call GDip hrDip rfl gDip kDip bDip .nil pass0 (pa_cons (pv 0) (pa_cons pe_int pa_nil))))) (pss_cons (ps_if (pt_cmpR op_lt (pv 2) pe_int (nomark _)) (pss_one (ps_ret (pe_ifExp (pt_cmpR op_eq (pv 2) pe_int (nomark _)) (pe_tup (pa_cons pe_str pa_nil)) (pe_tup (pa_cons pe_str pa_nil))))) pss_nil) (pss_cons (ps_if (pt_cmpR op_eq (pv 2) pe_int (nomark _)) (pss_one (ps_ret (pe_call0 GTruth hrTruth rfl gTruth kTruth bTruth .nil pass0))) pss_nil) (pss_cons (ps_if (pt_cmpR op_eq (pv 2) pe_int (nomark _)) (pss_one (ps_ret (pe_tup (pa_cons pe_str (pa_cons (pe_call GR hrR rfl gR F.kp bR .nil pass0 (pa_cons (pv 0) (pa_cons (pe_op op_sub (pv 1) pe_int) pa_nil))) pa_nil))))) pss_nil) (pss_cons (ps_set (i := 3) sc.nd rfl (Or.inl rfl) (pe_call GR hrR rfl gR F.kp bR .nil pass0 (pa_cons (pv 0) (pa_cons (pe_op op_sub (pv 1) pe_int) pa_nil)))) (pss_one (ps_ret (pe_tup (pa_cons (pe_ifExp (pt_cmpR op_eq (pv 2) pe_int (nomark _)) pe_str pe_str) (pa_cons (pv 3) (pa_cons (pe_call GR hrR rfl gR F.kp bR .nil pass0 (pa_cons (pv 0) (pa_cons (pe_op op_sub (pv 1) pe_int) pa_nil))) pa_nil))))))))))), ?_⟩
    have big : ∀ k : Nat, k ≤ 1000 → k ≤ sizeLine := fun k h => Nat.le_of_lt (small1000 h)
    have lay : ∀ {c2 : Int} {H2 : Hp} {p : Addr} {xs : List V} {ds : List PyData}, Wl H2 w c2 → H2 p = none → DtA (Nw w) H2 xs ds → Dt (Nw w) (upd H2 p (.tup xs)) (.ref p) (.tuple ds) := fun w2 np dd =>
      .tup (w2.ne np).symm upd_same (dd.kw (Kw.new np))
    refine way_draw (n := n) rfl rfl hw (by omega) (by decide) (by decide) fun b c1 H1 b0 b1 k1 w1 e1 => ?_
    refine ⟨_, rfl, _, _, rfl, rfl, _, rfl, ite2 (fun g => ?_) (fun g => ?_)⟩
    · refine ⟨_, rfl, rfl, _, rfl, ite2 (fun g3 => ?_) (fun g3 => ?_)⟩
      · refine ⟨big _ (by show (1 : Nat) ≤ 1000; decide), fun p np => ?_⟩
        exact q _ .unit c1 _ (lay w1 np (.cons (.str _) .nil)) (Nat.le_add_left _ _) rfl rfl (k1.trans (Kw.new np)) (w1.same (Same.new np)) (by omega)
      · refine ⟨big _ (by show (1 : Nat) ≤ 1000; decide), fun p np => ?_⟩
        exact q _ .num c1 _ (lay w1 np (.cons (.str _) .nil)) (Nat.le_add_left _ _) rfl rfl (k1.trans (Kw.new np)) (w1.same (Same.new np)) (by omega)
    · have g4 : ¬ b < 4 := fun z => g (decide_eq_true z)
      have gn : 0 < n ∧ b < 9 := b1.resolve_left g4
      (obtain ⟨m, rfl⟩ : ∃ m, n = m + 1 := ⟨n - 1, by omega⟩)
      have tm := Ck_ge m
      have tt : Ck (m + 1) = 2 * Ck m + 2 := rfl
      have em : (((m + 1 : Nat) : Int) - 1) = (m : Int) := by omega
      refine ⟨_, rfl, rfl, _, rfl, ite2 (fun g5 => ?_) (fun g5 => ?_)⟩
      · refine ⟨rfl, fun v H2 s2 d2 => ?_⟩
        exact q v (.eith .unit .unit) c1 H2 (d2.nw w1.some) (by show 2 ≤ m + 1 + 1; omega) rfl rfl (k1.trans (Kw.same s2)) (w1.same s2) (by omega)
      refine ⟨_, rfl, rfl, _, rfl, ite2 (fun g6 => ?_) (fun g6 => ?_)⟩
      · refine ⟨_, rfl, _, rfl, _, _, rfl, rfl, hR m rfl _ _ _ ⟨w, c1, by show [V.ref w, V.int (((m + 1 : Nat) : Int) - 1)] = _; rw [em], w1, by omega, fun v1 k c2 H2 d2 p2 cl2 nf2 k2 w2 e2 => ?_⟩⟩
        refine ⟨big _ (by show (2 : Nat) ≤ 1000; decide), fun p np => ?_⟩
        exact q _ (.lst k) c2 _ (lay w2 np (.cons (.str _) (.cons d2 .nil))) (Nat.succ_le_succ p2) cl2 nf2 (k1.trans (k2.trans (Kw.new np))) (w2.same (Same.new np)) (by omega)
      · refine ⟨_, rfl, _, rfl, _, _, rfl, rfl, hR m rfl _ _ _ ⟨w, c1, by show [V.ref w, V.int (((m + 1 : Nat) : Int) - 1)] = _; rw [em], w1, by omega, fun v1 k c2 H2 d2 p2 cl2 nf2 k2 w2 e2 => ?_⟩⟩
        refine ⟨_, rfl, rfl, _, rfl, ite2 (fun g7 => ?_) (fun g7 => ?_)⟩
        · refine ⟨_, rfl, _, rfl, _, rfl, _, _, rfl, rfl, hR m rfl _ _ _ ⟨w, c2, by show [V.ref w, V.int (((m + 1 : Nat) : Int) - 1)] = _; rw [em], w2, by omega, fun v2 kk c3 H3 d3 p3 cl3 nf3 k3 w3 e3 => ?_⟩⟩
          refine ⟨big _ (by show (3 : Nat) ≤ 1000; decide), fun p np => ?_⟩
          exact q _ (.pair k kk) c3 _ (lay w3 np (.cons (.str _) (.cons (d2.kw k3) (.cons d3 .nil)))) (by show max k.dep kk.dep + 1 ≤ m + 1 + 1; omega) (by show (k.closed && kk.closed) = true; rw [cl2, cl3]; rfl) (by show (k.noFn && kk.noFn) = true; rw [nf2, nf3]; rfl) (k1.trans (k2.trans (k3.trans (Kw.new np)))) (w3.same (Same.new np)) (by omega)
        · refine ⟨_, rfl, _, rfl, _, rfl, _, _, rfl, rfl, hR m rfl _ _ _ ⟨w, c2, by show [V.ref w, V.int (((m + 1 : Nat) : Int) - 1)] = _; rw [em], w2, by omega, fun v2 kk c3 H3 d3 p3 cl3 nf3 k3 w3 e3 => ?_⟩⟩
          refine ⟨big _ (by show (3 : Nat) ≤ 1000; decide), fun p np => ?_⟩
          exact q _ (.eith k kk) c3 _ (lay w3 np (.cons (.str _) (.cons (d2.kw k3) (.cons d3 .nil)))) (by show max k.dep kk.dep + 1 ≤ m + 1 + 1; omega) (by show (k.closed && kk.closed) = true; rw [cl2, cl3]; rfl) (by show (k.noFn && kk.noFn) = true; rw [nf2, nf3]; rfl) (k1.trans (k2.trans (k3.trans (Kw.new np)))) (w3.same (Same.new np)) (by omega)
theorem ok_closed {f : Addr} {fd : FuncData} (F : FnP K "_law_closed" (top 47) f fd) (hDip : Has P w K mg base "_law_dip" ["_law_well_here", "_law_top"] 1 spDraw) (hTruth : Has P w K mg base "_law_truth" [] 1 spTruth)
    (gR : mg "_law_closed" = some (.ref f)) (bR : Binds K fd ["_law_well_here", "_law_left"] []) : ∀ n : Nat, FnOk P w K mg base CX0 (1 + n + 1) f fd ["_law_well_here", "_law_left"] (spCl n)
  | 0 => closed_body 0 (spR := fun _ _ _ _ => False) F hDip hTruth gR bR ⟨fun _ _ _ _ h => h.elim, fun _ _ _ _ _ _ _ _ _ _ _ _ _ h => h.elim⟩ fun m e => by cases e
  | n + 1 => closed_body (n + 1) F hDip hTruth gR bR (ok_closed F hDip hTruth gR bR n) fun m e => by cases e; exact fun _ _ _ h => h
end
end N3
namespace KB
open PySem L2 PySem.Spec PyProof.Rows
def ky : Kd → PyData → PyData
  | .pair a b, .tuple [_, x, y] => .tuple [ky a x, ky b y]
  | .eith a b, .tuple [.str p, x] => if p = "left" then .tuple [.int 0, ky a x] else .tuple [.int 1, ky b x]
  | .lst a, .tuple xs => .tuple (xs.map (ky a))
  | _, d => d
theorem eqv_refl_of {k : Kd} {d e : PyData} (h : Cm k d e 0) : PyData.eqv d e = true := by rw [cm_eqv h]; rfl
theorem map_at {α β : Type} {f : α → β} {l : List α} {i : Nat} {x : α} (h : l[i]? = some x) : (l.map f)[i]? = some (f x) := by rw [List.getElem?_map, h]; rfl
theorem at_map {α β : Type} {f : α → β} {l : List α} {i : Nat} {y : β} (h : (l.map f)[i]? = some y) : ∃ x, l[i]? = some x ∧ y = f x := by
  rw [List.getElem?_map] at h
  cases e : l[i]? with
  | none => (rw [e] at h; cases h)
  | some x => rw [e] at h; exact ⟨x, rfl, (Option.some.inj h).symm⟩
theorem ky_eqv {k : Kd} {d e : PyData} {r : Int} (h : Cm k d e r) : PyData.eqv (ky k d) (ky k e) = decide (r = 0) := by
  induction h with
  | unit => rfl
  | num i j =>
    rw [sg_zero]
    simp only [ky, PyData.eqv]
  | pairN h n ih =>
    rw [decide_eq_false n] at ih ⊢
    simp only [ky, PyData.eqv, PyData.eqvAll, ih, Bool.false_and, Bool.and_false]
  | pairE h h2 ih ih2 =>
    rw [decide_eq_true rfl] at ih
    simp only [ky, PyData.eqv, PyData.eqvAll, ih, ih2, Bool.true_and, Bool.and_true]
  | left h ih =>
    simp only [ky, if_true, PyData.eqv, PyData.eqvAll, ih, Bool.and_true, beq_self_eq_true, Bool.true_and]
  | right h ih =>
    have n : ¬ (("right" : Str) = "left") := by decide
    simp only [ky, if_neg n, PyData.eqv, PyData.eqvAll, ih, Bool.and_true, beq_self_eq_true, Bool.true_and]
  | leftRight =>
    have n : ¬ (("right" : Str) = "left") := by decide
    simp only [ky, if_neg n, if_true, PyData.eqv, PyData.eqvAll]
    rw [show ((0 : Int) == 1) = false by decide, Bool.false_and]
    rfl
  | rightLeft =>
    have n : ¬ (("right" : Str) = "left") := by decide
    simp only [ky, if_neg n, if_true, PyData.eqv, PyData.eqvAll]
    rw [show ((1 : Int) == 0) = false by decide, Bool.false_and]
    rfl
  | @lstN a xs ys i x y r hx hy pre h n ihp ih =>
    rw [decide_eq_false n] at ih ⊢
    show PyData.eqvAll (xs.map (ky a)) (ys.map (ky a)) = false
    rw [← SeqAt.eqvAll_eq, Bool.and_eq_false_iff]
    left
    rw [List.all_eq_false]
    have i1 := (List.getElem?_eq_some_iff.mp hx).1
    have i2 := (List.getElem?_eq_some_iff.mp hy).1
    exact ⟨i, List.mem_range.mpr (by rw [List.length_map, List.length_map]; omega), by rw [pair_at (map_at hx) (map_at hy), ih]; decide⟩
  | @lstE a xs ys pre ih =>
    show PyData.eqvAll (xs.map (ky a)) (ys.map (ky a)) = _
    rw [← SeqAt.eqvAll_eq, sg_zero]
    have all : (List.range (min (xs.map (ky a)).length (ys.map (ky a)).length)).all (SeqAt.pairEq (xs.map (ky a)) (ys.map (ky a))) = true := by
      rw [List.all_eq_true]
      intro j hj
      have lt := List.mem_range.mp hj
      rw [List.length_map, List.length_map] at lt
      have l1 : j < xs.length := by omega
      have l2 : j < ys.length := by omega
      rw [pair_at (map_at (List.getElem?_eq_getElem l1)) (map_at (List.getElem?_eq_getElem l2)), ih j _ _ (List.getElem?_eq_getElem l1) (List.getElem?_eq_getElem l2)]
      rfl
    rw [all, Bool.true_and, List.length_map, List.length_map, Bool.eq_iff_iff]
    simp only [beq_iff_eq]
    omega
theorem ky_lt {k : Kd} {d e : PyData} {r : Int} (h : Cm k d e r) : ∀ {A : Around} {s : Shared} {a b : Value} {as bs : List Addr}, Reads s.heap a (ky k d) as → Reads s.heap b (ky k e) bs → r ≠ 0 → (ky k d).plain = true → (ky k e).plain = true → A.units + min (ky k d).depth (ky k e).depth < cLine → SeqAt.RcLt A s a b (decide (r < 0)) := by
  induction h with
  | unit => intro A s a b as bs _ _ n; exact absurd rfl n
  | num i j =>
    intro A s a b as bs ra rb n _ _ _
    simp only [ky] at ra rb
    cases ra
    cases rb
    rw [sg_neg]
    intro prog w E Q hq
    exact HT.rcLt_int A s i _ j _ prog w E Q hq
  | @pairN ka kb x y x' y' r h n ih =>
    intro A s a b as bs ra rb n pa pb hu
    have e0 := ky_eqv h
    rw [decide_eq_false n] at e0
    simp only [ky] at ra rb pa pb hu
    have pa' := pa
    have pb' := pb
    simp only [PyData.plain] at pa' pb'
    exact lt_first ra rb pa' pb' hu (i := 0) rfl rfl (fun j hj => absurd hj (Nat.not_lt_zero j)) e0 fun v w av aw r1 r2 hu2 => ih r1 r2 n (plain_all pa' (by simp)) (plain_all pb' (by simp)) hu2
  | @pairE ka kb x y x' y' r h h2 ih ih2 =>
    intro A s a b as bs ra rb n pa pb hu
    have e0 := ky_eqv h2
    rw [decide_eq_false n] at e0
    have e1 := ky_eqv h
    simp only [ky] at ra rb pa pb hu
    have pa' := pa
    have pb' := pb
    simp only [PyData.plain] at pa' pb'
    refine lt_first ra rb pa' pb' hu (i := 1) rfl rfl (fun j hj => ?_) e0 fun v w av aw r1 r2 hu2 => ih2 r1 r2 n (plain_all pa' (by simp)) (plain_all pb' (by simp)) hu2
    obtain rfl : j = 0 := by omega
    rw [pair_at rfl rfl]
    exact e1
  | @left ka kb x x' r h ih =>
    intro A s a b as bs ra rb n pa pb hu
    have e0 := ky_eqv h
    rw [decide_eq_false n] at e0
    simp only [ky, if_true] at ra rb pa pb hu
    have pa' := pa
    have pb' := pb
    simp only [PyData.plain] at pa' pb'
    refine lt_first ra rb pa' pb' hu (i := 1) rfl rfl (fun j hj => ?_) e0 fun v w av aw r1 r2 hu2 => ih r1 r2 n (plain_all pa' (by simp)) (plain_all pb' (by simp)) hu2
    obtain rfl : j = 0 := by omega
    rw [pair_at rfl rfl]
    simp only [PyData.eqv, beq_self_eq_true]
  | @right ka kb x x' r h ih =>
    intro A s a b as bs ra rb n pa pb hu
    have e0 := ky_eqv h
    rw [decide_eq_false n] at e0
    have nn : ¬ (("right" : Str) = "left") := by decide
    simp only [ky, if_neg nn] at ra rb pa pb hu
    have pa' := pa
    have pb' := pb
    simp only [PyData.plain] at pa' pb'
    refine lt_first ra rb pa' pb' hu (i := 1) rfl rfl (fun j hj => ?_) e0 fun v w av aw r1 r2 hu2 => ih r1 r2 n (plain_all pa' (by simp)) (plain_all pb' (by simp)) hu2
    obtain rfl : j = 0 := by omega
    rw [pair_at rfl rfl]
    simp only [PyData.eqv, beq_self_eq_true]
  | leftRight =>
    intro A s a b as bs ra rb n pa pb hu
    have nn : ¬ (("right" : Str) = "left") := by decide
    simp only [ky, if_neg nn, if_true] at ra rb pa pb hu
    have pa' := pa
    have pb' := pb
    simp only [PyData.plain] at pa' pb'
    refine lt_first ra rb pa' pb' hu (i := 0) rfl rfl (fun j hj => absurd hj (Nat.not_lt_zero j)) (by simp only [PyData.eqv]; decide) fun v w av aw r1 r2 hu2 => ?_
    cases r1
    cases r2
    intro prog w E Q hq
    exact HT.rcLt_int _ s 0 _ 1 _ prog w E Q hq
  | rightLeft =>
    intro A s a b as bs ra rb n pa pb hu
    have nn : ¬ (("right" : Str) = "left") := by decide
    simp only [ky, if_neg nn, if_true] at ra rb pa pb hu
    have pa' := pa
    have pb' := pb
    simp only [PyData.plain] at pa' pb'
    refine lt_first ra rb pa' pb' hu (i := 0) rfl rfl (fun j hj => absurd hj (Nat.not_lt_zero j)) (by simp only [PyData.eqv]; decide) fun v w av aw r1 r2 hu2 => ?_
    cases r1
    cases r2
    intro prog w E Q hq
    exact HT.rcLt_int _ s 1 _ 0 _ prog w E Q hq
  | @lstN ka xs ys i x y r hx hy pre h n ihp ih =>
    intro A s a b as bs ra rb n0 pa pb hu
    have e0 := ky_eqv h
    rw [decide_eq_false n] at e0
    simp only [ky] at ra rb pa pb hu
    have pa' := pa
    have pb' := pb
    simp only [PyData.plain] at pa' pb'
    refine lt_first ra rb pa' pb' hu (i := i) (map_at hx) (map_at hy) (fun j hj => ?_) e0 fun v w av aw r1 r2 hu2 => ih r1 r2 n (plain_all pa' (List.mem_of_getElem? (map_at hx))) (plain_all pb' (List.mem_of_getElem? (map_at hy))) hu2
    have i1 := (List.getElem?_eq_some_iff.mp hx).1
    have i2 := (List.getElem?_eq_some_iff.mp hy).1
    have l1 : j < xs.length := by omega
    have l2 : j < ys.length := by omega
    have z := pre j _ _ hj (List.getElem?_eq_getElem l1) (List.getElem?_eq_getElem l2)
    rw [pair_at (map_at (List.getElem?_eq_getElem l1)) (map_at (List.getElem?_eq_getElem l2)), ky_eqv z]
    rfl
  | @lstE ka xs ys pre ih =>
    intro A s a b as bs ra rb n0 pa pb hu
    simp only [ky] at ra rb pa pb hu
    have pa' := pa
    have pb' := pb
    simp only [PyData.plain] at pa' pb'
    have main := lt_ends ra rb pa' pb' hu (fun j hj => ?_)
    · rw [List.length_map, List.length_map] at main
      rw [sg_neg]
      rw [show decide ((xs.length : Int) < (ys.length : Int)) = decide (xs.length < ys.length) by simp]
      exact main
    · rw [List.length_map, List.length_map] at hj
      have l1 : j < xs.length := by omega
      have l2 : j < ys.length := by omega
      have z := pre j _ _ (List.getElem?_eq_getElem l1) (List.getElem?_eq_getElem l2)
      rw [pair_at (map_at (List.getElem?_eq_getElem l1)) (map_at (List.getElem?_eq_getElem l2)), ky_eqv z]
      rfl
def lt2b (r1 r2 : Int) : Bool := decide (r1 < 0) || (decide (r1 = 0) && decide (r2 < 0))
theorem lt_two {A : Around} {s : Shared} {a b : Value} {as bs : List Addr} {x y x' y' : PyData} {r1 r2 : Int} (ra : Reads s.heap a (.tuple [x, y]) as) (rb : Reads s.heap b (.tuple [x', y']) bs)
    (px : x.plain = true) (py : y.plain = true) (px' : x'.plain = true) (py' : y'.plain = true) (hu : A.units + min (PyData.depth (.tuple [x, y])) (PyData.depth (.tuple [x', y'])) < cLine)
    (e1 : PyData.eqv x x' = decide (r1 = 0)) (e2 : PyData.eqv y y' = decide (r2 = 0))
    (h1 : r1 ≠ 0 → ∀ v w av aw, Reads s.heap v x av → Reads s.heap w x' aw → A.in1.units + min x.depth x'.depth < cLine → SeqAt.RcLt A.in1 s v w (decide (r1 < 0)))
    (h2 : r2 ≠ 0 → ∀ v w av aw, Reads s.heap v y av → Reads s.heap w y' aw → A.in1.units + min y.depth y'.depth < cLine → SeqAt.RcLt A.in1 s v w (decide (r2 < 0))) : SeqAt.RcLt A s a b (lt2b r1 r2) := by
  have pa : PyData.plainAll [x, y] = true := by simp only [PyData.plainAll, px, py, Bool.and_self]
  have pb : PyData.plainAll [x', y'] = true := by simp only [PyData.plainAll, px', py', Bool.and_self]
  by_cases z1 : r1 = 0
  · subst z1
    by_cases z2 : r2 = 0
    · subst z2
      have main := lt_ends ra rb pa pb hu (fun j hj => ?_)
      · exact main
      · rcases (show j = 0 ∨ j = 1 by simp at hj; omega) with rfl | rfl
        · rw [pair_at rfl rfl]; exact e1
        · rw [pair_at rfl rfl]; exact e2
    · rw [decide_eq_false z2] at e2
      have : lt2b 0 r2 = decide (r2 < 0) := by unfold lt2b; simp
      rw [this]
      refine lt_first ra rb pa pb hu (i := 1) rfl rfl (fun j hj => ?_) e2 fun v w av aw q1 q2 hu2 => h2 z2 v w av aw q1 q2 hu2
      obtain rfl : j = 0 := by omega
      rw [pair_at rfl rfl]; exact e1
  · rw [decide_eq_false z1] at e1
    have : lt2b r1 r2 = decide (r1 < 0) := by unfold lt2b; simp [z1]
    rw [this]
    exact lt_first ra rb pa pb hu (i := 0) rfl rfl (fun j hj => absurd hj (Nat.not_lt_zero j)) e1 fun v w av aw q1 q2 hu2 => h1 z1 v w av aw q1 q2 hu2
mutual
def enc : PyData → List Int
  | .int i => [i]
  | .tuple ds => encA ds
  | _ => []
def encA : List PyData → List Int
  | [] => [0]
  | d :: ds => 1 :: (enc d ++ encA ds)
end
theorem pre_lt : ∀ (l A B : List Int), l ++ A < l ++ B ↔ A < B
  | [], _, _ => Iff.rfl
  | x :: l, A, B => by
    rw [List.cons_append, List.cons_append, List.cons_lt_cons_iff]
    constructor
    · rintro (h | ⟨_, h⟩)
      · exact absurd h (Int.lt_irrefl _)
      · exact (pre_lt l A B).mp h
    · exact fun h => .inr ⟨rfl, (pre_lt l A B).mpr h⟩
theorem sg_pos {i j : Int} : 0 < sg i j ↔ j < i := by
  unfold sg
  constructor
  · intro h; split at h <;> split at h <;> omega
  · intro h; rw [if_pos h, if_neg (by omega)]; decide
theorem sg_lt {i j : Int} : sg i j < 0 ↔ i < j := by
  unfold sg
  constructor
  · intro h; split at h <;> split at h <;> omega
  · intro h; rw [if_neg (by omega), if_pos h]; decide
structure EO (r : Int) (x y : List Int) : Prop where
  lt : r < 0 → ∀ A B, x ++ A < y ++ B
  gt : 0 < r → ∀ A B, y ++ B < x ++ A
  eq : r = 0 → x = y
theorem EO.pre {r : Int} {x y : List Int} (h : EO r x y) (l : List Int) : EO r (l ++ x) (l ++ y) := ⟨fun n A B => by rw [List.append_assoc, List.append_assoc]; exact (pre_lt l _ _).mpr (h.lt n A B),
  fun n A B => by rw [List.append_assoc, List.append_assoc]; exact (pre_lt l _ _).mpr (h.gt n A B), fun n => by rw [h.eq n]⟩
theorem EO.suf {r : Int} {x y : List Int} (h : EO r x y) (n : r ≠ 0) (u v : List Int) : EO r (x ++ u) (y ++ v) := ⟨fun z A B => by rw [List.append_assoc, List.append_assoc]; exact h.lt z _ _,
  fun z A B => by rw [List.append_assoc, List.append_assoc]; exact h.gt z _ _, fun z => absurd z n⟩
theorem EO.cat {r : Int} {x y u v : List Int} (e : x = y) (h : EO r u v) : EO r (x ++ u) (y ++ v) := by
  rw [e]
  exact h.pre _
theorem eo_lst (f : PyData → PyData) : ∀ (i : Nat) (xs ys : List PyData) (x y : PyData) (r : Int), xs[i]? = some x → ys[i]? = some y → r ≠ 0 → EO r (enc (f x)) (enc (f y)) →
    (∀ j x' y', j < i → xs[j]? = some x' → ys[j]? = some y' → enc (f x') = enc (f y')) → EO r (encA (xs.map f)) (encA (ys.map f))
  | 0, x :: xs, y :: ys, _, _, r, h1, h2, n, h, _ => by
    cases h1
    cases h2
    rw [List.map_cons, List.map_cons, encA, encA]
    exact (h.suf n _ _).pre [1]
  | i + 1, x :: xs, y :: ys, u, v, r, h1, h2, n, h, pre => by
    rw [List.map_cons, List.map_cons, encA, encA]
    exact (EO.cat (pre 0 x y (Nat.succ_pos _) rfl rfl) (eo_lst f i xs ys u v r h1 h2 n h fun j x' y' hj e1 e2 => pre (j + 1) x' y' (Nat.succ_lt_succ hj) e1 e2)).pre [1]
  | 0, [], _, _, _, _, h1, _, _, _, _ => by cases h1
  | 0, _ :: _, [], _, _, _, _, h2, _, _, _ => by cases h2
  | i + 1, [], _, _, _, _, h1, _, _, _, _ => by cases h1
  | i + 1, _ :: _, [], _, _, _, _, h2, _, _, _ => by cases h2
theorem eo_end (f : PyData → PyData) : ∀ (xs ys : List PyData), (∀ (j : Nat) (x' y' : PyData), xs[j]? = some x' → ys[j]? = some y' → enc (f x') = enc (f y')) → EO (sg xs.length ys.length) (encA (xs.map f)) (encA (ys.map f))
  | x :: xs, y :: ys, pre => by
    rw [List.map_cons, List.map_cons, encA, encA, List.length_cons, List.length_cons, sg_succ]
    exact (EO.cat (pre 0 x y rfl rfl) (eo_end f xs ys fun j x' y' e1 e2 => pre (j + 1) x' y' e1 e2)).pre [1]
  | [], [], _ => ⟨fun h => absurd h (by decide), fun h => absurd h (by decide), fun _ => rfl⟩
  | [], y :: ys, _ => by
    have h : sg (([] : List PyData).length : Int) ((y :: ys).length : Int) < 0 := sg_lt.mpr (by simp only [List.length_nil, List.length_cons]; omega)
    refine ⟨fun _ A B => ?_, fun z => absurd h (by omega), fun z => absurd h (by omega)⟩
    rw [List.map_nil, List.map_cons, encA, encA]
    exact List.cons_lt_cons_iff.mpr (.inl (by decide))
  | x :: xs, [], _ => by
    have h : 0 < sg ((x :: xs).length : Int) (([] : List PyData).length : Int) := sg_pos.mpr (by simp only [List.length_nil, List.length_cons]; omega)
    refine ⟨fun z => absurd h (by omega), fun _ A B => ?_, fun z => absurd h (by omega)⟩
    rw [List.map_nil, List.map_cons, encA, encA]
    exact List.cons_lt_cons_iff.mpr (.inl (by decide))
theorem sg_zero' {i j : Int} (h : sg i j = 0) : i = j := by
  have := sg_zero i j
  rw [h] at this
  simpa using this.symm
theorem cm_enc {k : Kd} {d e : PyData} {r : Int} (h : Cm k d e r) : EO r (enc (ky k d)) (enc (ky k e)) := by
  induction h with
  | unit => exact ⟨fun h => absurd h (by decide), fun h => absurd h (by decide), fun _ => rfl⟩
  | num i j =>
    simp only [ky, enc]
    exact ⟨fun h A B => List.cons_lt_cons_iff.mpr (.inl (sg_lt.mp h)), fun h A B => List.cons_lt_cons_iff.mpr (.inl (sg_pos.mp h)), fun h => by rw [sg_zero' h]⟩
  | pairN h n ih =>
    simp only [ky, enc, encA]
    exact (ih.suf n _ _).pre [1]
  | @pairE a b x y x' y' r h h2 ih ih2 =>
    simp only [ky, enc, encA]
    by_cases z : r = (0 : Int)
    · exact (EO.cat (ih.eq rfl) ⟨fun h => absurd h (by omega), fun h => absurd h (by omega), fun _ => by rw [ih2.eq z]⟩).pre [1]
    · exact (EO.cat (ih.eq rfl) ((ih2.suf z [0] [0]).pre [1])).pre [1]
  | @left a b x x' r h ih =>
    simp only [ky, if_true, enc, encA]
    by_cases z : r = (0 : Int)
    · exact ⟨fun h => absurd h (by omega), fun h => absurd h (by omega), fun _ => by rw [ih.eq z]⟩
    · exact ((ih.suf z [0] [0]).pre [1]).pre [1, 0]
  | @right a b x x' r h ih =>
    have nn : ¬ (("right" : Str) = "left") := by decide
    simp only [ky, if_neg nn, enc, encA]
    by_cases z : r = (0 : Int)
    · exact ⟨fun h => absurd h (by omega), fun h => absurd h (by omega), fun _ => by rw [ih.eq z]⟩
    · exact ((ih.suf z [0] [0]).pre [1]).pre [1, 1]
  | leftRight =>
    have nn : ¬ (("right" : Str) = "left") := by decide
    simp only [ky, if_true, if_neg nn, enc, encA]
    refine ⟨fun _ A B => ?_, fun h => absurd h (by decide), fun h => absurd h (by decide)⟩
    exact List.cons_lt_cons_iff.mpr (.inr ⟨rfl, List.cons_lt_cons_iff.mpr (.inl (by decide))⟩)
  | rightLeft =>
    have nn : ¬ (("right" : Str) = "left") := by decide
    simp only [ky, if_true, if_neg nn, enc, encA]
    refine ⟨fun h => absurd h (by decide), fun _ A B => ?_, fun h => absurd h (by decide)⟩
    exact List.cons_lt_cons_iff.mpr (.inr ⟨rfl, List.cons_lt_cons_iff.mpr (.inl (by decide))⟩)
  | @lstN a xs ys i x y r hx hy pre h n ihp ih =>
    simp only [ky, enc]
    exact eo_lst (ky a) i xs ys x y r hx hy n ih fun j x' y' hj e1 e2 => (ihp j x' y' hj e1 e2).eq rfl
  | @lstE a xs ys pre ih =>
    simp only [ky, enc]
    exact eo_end (ky a) xs ys fun j x' y' e1 e2 => (ih j x' y' e1 e2).eq rfl
theorem enc_two {a b : Kd} {x y x' y' : PyData} {r1 r2 : Int} (h1 : Cm a x x' r1) (h2 : Cm b y y' r2) : decide (enc (.tuple [ky a x, ky b y]) < enc (.tuple [ky a x', ky b y'])) = lt2b r1 r2 := by
  have e1 := cm_enc h1
  have e2 := cm_enc h2
  simp only [enc, encA]
  have go : ∀ {r : Int} {u v : List Int}, EO r u v → decide (u < v) = decide (r < 0) := fun {r u v} o => by
    rcases Int.lt_trichotomy r 0 with z | z | z
    · have := o.lt z [] []
      rw [List.append_nil, List.append_nil] at this
      rw [decide_eq_true this, decide_eq_true z]
    · rw [o.eq z, decide_eq_false (List.lt_irrefl _), decide_eq_false (by omega)]
    · have := o.gt z [] []
      rw [List.append_nil, List.append_nil] at this
      rw [decide_eq_false (List.lt_asymm this), decide_eq_false (by omega)]
  by_cases z1 : r1 = 0
  · have : lt2b r1 r2 = decide (r2 < 0) := by unfold lt2b; simp [z1]
    rw [this]
    refine go ((EO.cat (e1.eq z1) ?_).pre [1])
    by_cases z2 : r2 = 0
    · exact ⟨fun h => absurd h (by omega), fun h => absurd h (by omega), fun _ => by rw [e2.eq z2]⟩
    · exact (e2.suf z2 [0] [0]).pre [1]
  · have : lt2b r1 r2 = decide (r1 < 0) := by unfold lt2b; simp [z1]
    rw [this]
    exact go ((e1.suf z1 _ _).pre [1])
end KB
namespace KB
open PySem L2 PySem.Spec PyProof.Rows
mutual
def isKy : PyData → Bool
  | .int _ => true
  | .tuple ds => isKyA ds
  | _ => false
def isKyA : List PyData → Bool
  | [] => true
  | d :: ds => isKy d && isKyA ds
end
mutual
def nkD : PyData → NestedKey
  | .int i => .num i
  | .tuple ds => .tup (nkA ds)
  | _ => .none
def nkA : List PyData → List NestedKey
  | [] => []
  | d :: ds => nkD d :: nkA ds
end
mutual
theorem nk_depth : ∀ (d : PyData), isKy d = true → (nkD d).depth = d.depth
  | .int i, _ => by simp only [nkD, NestedKey.depth, PyData.depth]
  | .tuple ds, h => by
    rw [isKy] at h
    simp only [nkD, NestedKey.depth, PyData.depth, nk_depthA ds h] <;> omega
  | .none, h => by simp only [isKy] at h; cases h
  | .bool _, h => by simp only [isKy] at h; cases h
  | .str _, h => by simp only [isKy] at h; cases h
  | .list _, h => by simp only [isKy] at h; cases h
  | .dict _, h => by simp only [isKy] at h; cases h
theorem nk_depthA : ∀ (ds : List PyData), isKyA ds = true → NestedKey.depthAll (nkA ds) = PyData.depthAll ds
  | [], _ => by simp only [nkA, NestedKey.depthAll, PyData.depthAll]
  | d :: ds, h => by
    rw [isKyA, Bool.and_eq_true] at h
    simp only [nkA, NestedKey.depthAll, PyData.depthAll, nk_depth d h.1, nk_depthA ds h.2]
end
mutual
theorem reads_nk {h : Heap} : ∀ (d : PyData) (v : Value) (as : List Addr), isKy d = true → Reads h v d as → NestedIs h (nkD d) v
  | .int i, v, as, _, r => by
    cases r
    rw [nkD]
    exact .int _ _
  | .tuple ds, v, as, k, r => by
    rw [isKy] at k
    cases r with
    | tuple h1 h2 h3 h4 =>
      rw [nkD]
      exact .tup h1 h2 h3 (reads_nkA ds _ _ k h4)
  | .none, _, _, h, _ => by simp only [isKy] at h; cases h
  | .bool _, _, _, h, _ => by simp only [isKy] at h; cases h
  | .str _, _, _, h, _ => by simp only [isKy] at h; cases h
  | .list _, _, _, h, _ => by simp only [isKy] at h; cases h
  | .dict _, _, _, h, _ => by simp only [isKy] at h; cases h
theorem reads_nkA {h : Heap} : ∀ (ds : List PyData) (vs : List Value) (as : List Addr), isKyA ds = true → ReadsAll h vs ds as → NestedAll h (nkA ds) vs
  | [], vs, as, _, r => by
    cases r
    rw [nkA]
    exact .nil
  | d :: ds, vs, as, k, r => by
    rw [isKyA, Bool.and_eq_true] at k
    cases r with
    | cons r1 r2 =>
      rw [nkA]
      exact .cons (reads_nk d _ _ k.1 r1) (reads_nkA ds _ _ k.2 r2)
end
abbrev Ent := PyData × Addr × Addr
def entH (x : Ent) : NestedKey × Addr × Value := (nkD x.1, x.2.1, .ref x.2.2)
def NDf (P : Program) (w : World) (d : Addr) (xs : List Ent) : Heap → Prop := fun h => (d == sysModules) = false ∧ ∃ o es ep, h.get? d = some o ∧ o.ExactDict ∧ o.data = .dict es ep ∧ es.toList = (xs.map entH).map (entryOfKey (nestedKind P w)) ∧ ((xs.map entH).map (·.1)).Nodup
structure ND (P : Program) (w : World) (H : Hp) (d : Addr) (xs : List Ent) : Prop where
  at_ : (H d = some (.dK []) ∧ xs = []) ∨ H d = some (.ext (NDf P w d xs))
  len : xs.length ≤ 1000
  key : ∀ x ∈ xs, isKy x.1 = true ∧ x.1.depth ≤ 8 ∧ Dt (fun a => a ≠ d) H (.ref x.2.1) x.1
theorem ND.ne {P : Program} {w : World} {H : Hp} {d : Addr} {xs : List Ent} (h : ND P w H d xs) : H d ≠ none := by
  rcases h.at_ with ⟨e, _⟩ | e <;> rw [e] <;> exact fun z => nomatch z
theorem ND.keep {P : Program} {w : World} {H H' : Hp} {d : Addr} {xs : List Ent} (h : ND P w H d xs) (k : Same H H') : ND P w H' d xs :=
  ⟨h.at_.imp (fun z => ⟨k _ _ z.1, z.2⟩) (fun z => k _ _ z), h.len, fun x hx => ⟨(h.key x hx).1, (h.key x hx).2.1, (h.key x hx).2.2.keep k⟩⟩
def stN (xs : List Ent) (k : PyData) (b p : Addr) : List Ent := if (atKey (xs.map entH) (nkD k)).isSome then xs.map (fun x => if nkD x.1 = nkD k then (x.1, x.2.1, p) else x) else xs ++ [(k, b, p)]
theorem stN_H (xs : List Ent) (k : PyData) (b p : Addr) : (stN xs k b p).map entH = storedH (xs.map entH) (nkD k) b (.ref p) := by
  unfold stN storedH
  split
  · rw [List.map_map, List.map_map]
    (refine List.map_congr_left fun x _ => ?_)
    show entH (if nkD x.1 = nkD k then (x.1, x.2.1, p) else x) = putAt (nkD k) (.ref p) (entH x)
    unfold putAt
    by_cases z : nkD x.1 = nkD k
    · rw [if_pos z, if_pos (show (entH x).1 = nkD k from z)]
      rfl
    · rw [if_neg z, if_neg (show ¬ (entH x).1 = nkD k from z)]
  · rw [List.map_append]
    rfl
theorem stN_mem {xs : List Ent} {k : PyData} {b p : Addr} {x : Ent} (h : x ∈ stN xs k b p) : (∃ y ∈ xs, x.1 = y.1 ∧ x.2.1 = y.2.1 ∧ (x.2.2 = y.2.2 ∨ x.2.2 = p)) ∨ x = (k, b, p) := by
  unfold stN at h
  split at h
  · (obtain ⟨y, hy, rfl⟩ := List.mem_map.mp h)
    refine .inl ⟨y, hy, ?_⟩
    split
    · exact ⟨rfl, rfl, .inr rfl⟩
    · exact ⟨rfl, rfl, .inl rfl⟩
  · (rcases List.mem_append.mp h with h | h)
    · exact .inl ⟨x, h, rfl, rfl, .inl rfl⟩
    · (exact .inr (List.mem_singleton.mp h))
theorem stN_len (xs : List Ent) (k : PyData) (b p : Addr) : (stN xs k b p).length ≤ xs.length + 1 := by
  unfold stN
  split
  · rw [List.length_map]; omega
  · rw [List.length_append]; exact Nat.le_refl _
theorem nd_dict {P : Program} {w : World} {H : Hp} {h : Heap} {d : Addr} {xs : List Ent} (n : ND P w H d xs) (ok : HOk P w H h) (hk : ∀ x ∈ xs, (nestedKind P w).is h (nkD x.1) x.2.1) :
    (d == sysModules) = false ∧ h.DictOfH (nestedKind P w) d (xs.map entH) := by
  rcases n.at_ with ⟨e, rfl⟩ | e
  · obtain ⟨_, lo, vs, kv, o, es, ep, ho, hc, hd, _, hes, _⟩ := ok _ _ e
    cases kv
    refine ⟨lo, o, es, ep, ho, hc, hd, ?_, (fun x hx => nomatch hx), List.nodup_nil⟩
    have l := hes.length
    exact List.eq_nil_of_length_eq_zero l
  · obtain ⟨⟨lo, o, es, ep, ho, hc, hd, hes, nd⟩, _⟩ := ok _ _ e
    refine ⟨lo, o, es, ep, ho, hc, hd, hes, fun x hx => ?_, nd⟩
    (obtain ⟨y, hy, rfl⟩ := List.mem_map.mp hx)
    exact hk y hy
section
variable {X : Cx}
theorem nd_keys {pins : List (Addr × Obj)} {σ : L2.St} {H : Hp} {s : Shared} (hS : SysIn X.K) (I : Inv X pins σ H s) {F : Addr → Prop} {b : Addr} {k : PyData} (hk : Dt F H (.ref b) k) (i : isKy k = true) (hd : k.depth ≤ 8) : (nestedKind X.prog X.w).is s.heap (nkD k) b := by
  obtain ⟨as, r, _⟩ := hk.reads I hS (v := .ref b) rfl
  exact ⟨reads_nk k _ _ i r, by rw [nk_depth k i]; exact hd⟩
def rSetN (P : Program) (w : World) : TSet := fun o i v H Q => ∃ (d b p : Addr) (xs : List Ent) (k : PyData), o = .ref d ∧ i = .ref b ∧ v = .ref p ∧ ND P w H d xs ∧ xs.length < 1000 ∧ isKy k = true ∧ k.depth ≤ 8 ∧ Dt (fun a => a ≠ d) H (.ref b) k ∧
  ∀ H', H' = upd H d (.ext (NDf P w d (stN xs k b p))) → ND P w H' d (stN xs k b p) → Q H'
theorem set_nd (hS : SysIn X.K) {n : Nat} (hr : Room n X.A) : PSet X (rSetN X.prog X.w) := by
  (intro pins s σ H o i v ov iv u Q I ro ri rv h)
  obtain ⟨d, b, p, xs, k, rfl, rfl, rfl, n, ln, ik, dk, hk, q⟩ := h
  cases (show ov = Value.ref d from ro)
  cases (show iv = Value.ref b from ri)
  cases (show u = Value.ref p from rv)
  obtain ⟨lo, hm⟩ := nd_dict n I.hok fun x hx => nd_keys hS I (n.key x hx).2.2 (n.key x hx).1 (n.key x hx).2.1
  have room := hr.un
  have mu : Mut (H d) := by
    rcases n.at_ with ⟨e, _⟩ | e <;> rw [e] <;> trivial
  refine wpAny_setItem_heap (hsz := by rw [List.length_map]; have := n.len; rw [sizeLine_eq]; omega) (by show X.A.units + 1 + 8 < cLine; omega) (nd_keys hS I hk ik dk) hm fun h' hm' sb => ?_
  rw [← stN_H] at hm'
  obtain ⟨o, es, ep, ho, hc, hd, hes, his, nd⟩ := hm'
  have new : ObjOk X.prog X.w (upd H d (.ext (NDf X.prog X.w d (stN xs k b p)))) h' d (.ext (NDf X.prog X.w d (stN xs k b p))) :=
    ⟨⟨lo, o, es, ep, ho, hc, hd, hes, nd⟩, ⟨o, ho⟩, fun h1 h2 f st => by
      obtain ⟨f0, o1, es1, ep1, f1, f2⟩ := f
      exact ⟨f0, o1, es1, ep1, st _ f1, f2⟩⟩
  refine ⟨_, I.write (t' := s.toks + (nestedKind X.prog X.w).draws (nkD k)) mu (.inl rfl) (fun b u ne e => (sb.2 b ne).trans e) ⟨o, ho⟩ new, q _ rfl ⟨.inr upd_same, ?_, fun x hx => ?_⟩⟩
  · have := stN_len xs k b p
    omega
  · have mv : ∀ {v : V} {z : PyData}, Dt (fun a => a ≠ d) H v z → Dt (fun a => a ≠ d) (upd H d (.ext (NDf X.prog X.w d (stN xs k b p)))) v z := fun t => t.move fun a o f e => ⟨f, by rw [upd_ne f]; exact e⟩
    rcases stN_mem hx with ⟨y, hy, e1, e2, _⟩ | rfl
    · rw [e1, e2]
      exact ⟨(n.key y hy).1, (n.key y hy).2.1, mv (n.key y hy).2.2⟩
    · exact ⟨ik, dk, mv hk⟩
def rIxN (P : Program) (w : World) : R2 := fun x y H Q => ∃ (d : Addr) (xs : List Ent) (e : Ent), x = .ref d ∧ y = .ref e.2.1 ∧ ND P w H d xs ∧ e ∈ xs ∧ Q (.ref e.2.2) H
theorem ix_nd (hS : SysIn X.K) {n : Nat} (hr : Room n X.A) : IxR X (rIxN X.prog X.w) := by
  (intro value slice pins s σ H x y v u Q I rx ry h hs)
  obtain ⟨d, xs, e, rfl, rfl, n, he, q⟩ := h
  cases (show v = Value.ref d from rx)
  cases (show u = Value.ref e.2.1 from ry)
  obtain ⟨lo, hm⟩ := nd_dict n I.hok fun x hx => nd_keys hS I (n.key x hx).2.2 (n.key x hx).1 (n.key x hx).2.1
  have room := hr.un
  obtain ⟨_, _, _, _, _, _, _, _, nd⟩ := id hm
  have at_ : atKey (xs.map entH) (nkD e.1) = some (e.2.1, .ref e.2.2) := by
    have go : ∀ l : List Ent, e ∈ l → ((l.map entH).map (·.1)).Nodup → atKey (l.map entH) (nkD e.1) = some (e.2.1, .ref e.2.2) := by
      intro l
      induction l with
      | nil => intro h; cases h
      | cons y l ih =>
        intro h nd
        rw [List.map_cons, List.map_cons, List.nodup_cons] at nd
        by_cases z : nkD y.1 = nkD e.1
        · rcases List.mem_cons.mp h with h | h
          · subst h
            simp [atKey, entH]
          · exfalso
            refine nd.1 ?_
            rw [show (entH y).1 = nkD e.1 from z]
            exact List.mem_map.mpr ⟨entH e, List.mem_map.mpr ⟨e, h, rfl⟩, rfl⟩
        · rcases List.mem_cons.mp h with h | h
          · exact absurd (by rw [h]) z
          · have := ih h nd.2
            simp only [atKey, List.map_cons, List.find?_cons] at this ⊢
            rw [show decide ((entH y).1 = nkD e.1) = false from decide_eq_false z]
            exact this
    exact go xs he nd
  exact tail_any hm.typeIs slot_dict_getitem.lookup (wpAny_getItem_heap (by show X.A.units + 1 + 8 < cLine; omega) (nd_keys hS I (n.key e he).2.2 (n.key e he).1 (n.key e he).2.1) hm at_ ⟨.ref e.2.2, H, I.tok _, rfl, q⟩) hs
end
end KB
namespace KB
open PySem L2 PySem.Spec PyProof.Rows
section
variable {X : Cx}
def rListN (P : Program) (w : World) : List V → Hp → VK → Prop := fun vs H Q => ∃ (d : Addr) (xs : List Ent), vs = [.ref d] ∧ ND P w H d xs ∧ ∀ p, H p = none → Q (.ref p) (upd H p (.lst (xs.map fun x => V.ref x.2.1)))
theorem call_list_nd (hS : SysIn X.K) (hc : X.calm = true) : CallR X (.type "list") (rListN X.prog X.w) := by
  (intro pins s σ H xs us Q I r h)
  obtain ⟨d, xs, rfl, n, q⟩ := h
  obtain ⟨u, rfl, rx⟩ := r.one
  cases rx
  obtain ⟨lo, o, es, ep, ho, hx, hdt, he, _, hn⟩ := nd_dict n I.hok fun x hx => nd_keys hS I (n.key x hx).2.2 (n.key x hx).1 (n.key x hx).2.1
  have l1 : es.size = xs.length := by rw [size_of_entries he, List.length_map]
  have lz : xs.length ≤ sizeLine := by have := n.len; rw [sizeLine_eq]; omega
  refine PySem.W.kdl_call (kdl_raw lo hx hdt) (I.ok.hd hc) ho (by omega) fun h' tk acc' c' kp e it => ?_
  have eb : acc'.toList = (xs.map fun x => x.2.1).map Value.ref := by
    have hl : acc'.toList.length = xs.length := by rw [Array.length_toList, it.1]; exact l1
    apply List.ext_getElem?
    intro j
    rw [List.map_map, List.getElem?_map]
    cases hj : (acc'.toList[j]?) with
    | none =>
      (have h1 := List.getElem?_eq_none_iff.mp hj)
      (rw [List.getElem?_eq_none (by omega)])
      rfl
    | some v =>
      (obtain ⟨en, hen, hv⟩ := it.2 j v (by rw [← Array.getElem?_toList]; exact hj))
      have qe := entry_at he j
      rw [hen, List.getElem?_map] at qe
      cases hb : xs[j]? with
      | none =>
        rw [hb] at qe
        cases qe
      | some b =>
        rw [hb] at qe
        have e2 := Option.some.inj qe
        rw [hv, e2]
        rfl
  have em : (xs.map fun x => V.ref x.2.1) = (xs.map fun x => x.2.1).map V.ref := by rw [List.map_map]; rfl
  have rv : Vals (xs.map fun x => V.ref x.2.1) acc'.toList := by rw [eb, em]; exact vals_refs _
  refine ⟨.ref s.heap.objs.size, _, I.laid (t' := tk) (o := .lst (xs.map fun x => V.ref x.2.1)) kp (Nat.le_refl _) ?_, rfl, q _ (I.hok.fresh (Nat.le_refl _))⟩
  exact ⟨by rw [List.length_map]; exact lz, acc'.toList, c', rv, by rw [Array.toArray_toList]; exact e⟩
structure K2 (N : Nat) (a b : Kd) (k : PyData) : Prop where
  ex : ∃ x y, VV N a x ∧ VV N b y ∧ k = .tuple [ky a x, ky b y]
end
theorem ky_plain {N : Nat} {k : Kd} {d : PyData} (h : VV N k d) : (ky k d).plain = true := by
  induction h with
  | num i _ => simp only [ky, PyData.plain]
  | unit => simp only [ky, PyData.plain, PyData.plainAll]
  | @lst a xs hl h ih =>
    simp only [ky, PyData.plain]
    exact plainAll_of fun x hx => by
      (obtain ⟨y, hy, rfl⟩ := List.mem_map.mp hx)
      exact ih y hy
  | pair hx hy ihx ihy => simp only [ky, PyData.plain, PyData.plainAll, ihx, ihy, Bool.and_self]
  | left hx ih => simp only [ky, if_true, PyData.plain, PyData.plainAll, ih, Bool.and_self]
  | right hx ih =>
    have n : ¬ (("right" : Str) = "left") := by decide
    simp only [ky, if_neg n, PyData.plain, PyData.plainAll, ih, Bool.and_self]
theorem ky_depth {N : Nat} {k : Kd} {d : PyData} (h : VV N k d) : (ky k d).depth ≤ k.dep := by
  induction h with
  | num i _ => simp only [ky, PyData.depth]; exact Nat.zero_le _
  | unit => simp only [ky, PyData.depth, PyData.depthAll]; exact Nat.le_refl 1
  | @lst a xs hl h ih =>
    simp only [ky, PyData.depth]
    exact Nat.succ_le_succ (depthAll_le fun x hx => by
      (obtain ⟨y, hy, rfl⟩ := List.mem_map.mp hx)
      exact ih y hy)
  | @pair a b x y hx hy ihx ihy =>
    have e : (Kd.pair a b).dep = max a.dep b.dep + 1 := rfl
    simp only [ky, PyData.depth, PyData.depthAll]
    omega
  | @left a b x hx ih =>
    have e : (Kd.eith a b).dep = max a.dep b.dep + 1 := rfl
    simp only [ky, if_true, PyData.depth, PyData.depthAll]
    omega
  | @right a b x hx ih =>
    have n : ¬ (("right" : Str) = "left") := by decide
    have e : (Kd.eith a b).dep = max a.dep b.dep + 1 := rfl
    simp only [ky, if_neg n, PyData.depth, PyData.depthAll]
    omega
theorem isKyA_of : ∀ {xs : List PyData}, (∀ x ∈ xs, isKy x = true) → isKyA xs = true
  | [], _ => by rw [isKyA]
  | x :: xs, h => by
    rw [isKyA, h x List.mem_cons_self, isKyA_of fun y hy => h y (List.mem_cons_of_mem _ hy)]
    rfl
theorem ky_isK {N : Nat} {k : Kd} {d : PyData} (h : VV N k d) : isKy (ky k d) = true := by
  induction h with
  | num i _ => rfl
  | unit => rfl
  | @lst a xs hl h ih =>
    simp only [ky, isKy]
    exact isKyA_of fun x hx => by
      (obtain ⟨y, hy, rfl⟩ := List.mem_map.mp hx)
      exact ih y hy
  | pair hx hy ihx ihy => simp only [ky, isKy, isKyA, ihx, ihy, Bool.and_self]
  | left hx ih => simp only [ky, if_true, isKy, isKyA, ih, Bool.and_self]
  | right hx ih =>
    have n : ¬ (("right" : Str) = "left") := by decide
    simp only [ky, if_neg n, isKy, isKyA, ih, Bool.and_self]
theorem swo_enc (g : Value → PyData) : SrtO.Swo fun v u => decide (enc (g v) < enc (g u)) := by
  (refine ⟨fun x y h => ?_, fun x y z h1 h2 => ?_⟩)
  · exact decide_eq_false (List.lt_asymm (of_decide_eq_true h))
  · have a := of_decide_eq_false h1
    (have b := of_decide_eq_false h2)
    refine decide_eq_false fun c => ?_
    exact absurd c (List.not_lt.mpr (List.le_trans (List.not_lt.mp a) (List.not_lt.mp b)))
def KIn (N : Nat) (a b : Kd) (h : Heap) (v : Value) (k : PyData) : Prop := K2 N a b k ∧ ∃ as, Reads h v k as
theorem kin_cmp {prog : Program} {w : World} {A : Around} {s : Shared} {N : Nat} {a b : Kd} {g : Value → PyData} {vs : List Value} (ad : a.dep ≤ 8) (bd : b.dep ≤ 8) (hu : A.units + 20 < cLine) {c : Bool} (hc : c = true → a = .num)
    (hp : ∀ v ∈ vs, KIn N a b s.heap v (g v)) : SrtO.Cmp prog w A s (tuples' c) (fun p => p.1 ∈ vs) (SrtO.lt2 fun v u => decide (enc (g v) < enc (g u))) := by
  intro p q hm hm'
  obtain ⟨⟨x, y, hx, hy, e1⟩, as, r1⟩ := hp _ hm
  obtain ⟨⟨x', y', hx', hy', e2⟩, bs, r2⟩ := hp _ hm'
  show wpAny (model prog w) A (keyLt' (tuples' c) p.1 q.1) (fun r s' => s' = s ∧ r = decide (enc (g p.1) < enc (g q.1))) (fun _ _ => False) s
  rw [e1] at r1 ⊢
  rw [e2] at r2 ⊢
  obtain ⟨c1, m1⟩ := cm_ex hx hx'
  obtain ⟨c2, m2⟩ := cm_ex hy hy'
  rw [enc_two m1 m2]
  generalize ep : p.1 = pv at r1 ⊢
  generalize eq : q.1 = qv at r2 ⊢
  cases r1 with
  | @tuple l o ws n _ _ ho hcl hd ra =>
    cases r2 with
    | @tuple l' o' ws' n' _ _ ho' hcl' hd' ra' =>
      have d1 := ky_depth hx
      have d2 := ky_depth hy
      have d1' := ky_depth hx'
      have d2' := ky_depth hy'
      (refine PySem.W.kat_lt ho hd ho' hd' ?_)
      have z1 : ws.size = 2 := by simpa using SeqAt.ReadsAll.length _ _ _ ra
      have z2 : ws'.size = 2 := by simpa using SeqAt.ReadsAll.length _ _ _ ra'
      rw [z1, z2]
      generalize ws.toList = W at ra ⊢
      generalize ws'.toList = W' at ra' ⊢
      cases ra with
      | @cons v0 _ _ _ _ _ q0 ra =>
      cases ra with
      | @cons v1 _ _ _ _ _ q1 ra =>
      cases ra
      cases ra' with
      | @cons u0 _ _ _ _ _ t0 ra' =>
      cases ra' with
      | @cons u1 _ _ _ _ _ t1 ra' =>
      cases ra'
      show PySem.W.KatLex prog w A c (decide (2 < 2)) _ [(v0, u0), (v1, u1)] 0 s
      refine PySem.W.kat_cons (SeqAt.eqAt_plain _ _ A s _ _ _ _ q0 t0 (ky_plain hx) (ky_plain hx') (by omega) prog w _ _ ?_)
      rw [ky_eqv m1]
      refine PySem.W.kat_go (fun h1 => ?_) (fun h1 => ?_)
      · have z : c1 = 0 := of_decide_eq_true h1
        refine PySem.W.kat_yes (PySem.W.kat_cons (SeqAt.eqAt_plain _ _ A s _ _ _ _ q1 t1 (ky_plain hy) (ky_plain hy') (by omega) prog w _ _ ?_))
        rw [ky_eqv m2]
        refine PySem.W.kat_go (fun h2 => ?_) (fun h2 => ?_)
        · have z2 : c2 = 0 := of_decide_eq_true h2
          refine PySem.W.kat_yes (PySem.W.kat_nil ⟨rfl, ?_⟩)
          rw [z, z2]
          rfl
        · have z2 : ¬ c2 = 0 := of_decide_eq_false h2
          refine PySem.W.kat_no ?_
          rw [show (c && (0 + 1 == 0)) = false by cases c <;> rfl]
          refine PySem.W.kat_one _ _ (ky_lt m2 q1 t1 z2 (ky_plain hy) (ky_plain hy') (by omega) prog w _ _ ?_)
          show s = s ∧ decide (c2 < 0) = lt2b c1 c2
          rw [z]
          exact ⟨rfl, by unfold lt2b; simp⟩
      · have z : ¬ c1 = 0 := of_decide_eq_false h1
        refine PySem.W.kat_no ?_
        have fin : decide (c1 < 0) = lt2b c1 c2 := by unfold lt2b; simp [z]
        cases c with
        | false =>
          refine PySem.W.kat_one _ _ (ky_lt m1 q0 t0 z (ky_plain hx) (ky_plain hx') (by omega) prog w _ _ ?_)
          exact (show s = s ∧ decide (c1 < 0) = lt2b c1 c2 from ⟨rfl, fin⟩)
        | true =>
          have ea := hc rfl
          subst ea
          cases m1 with
          | num i j =>
            simp only [ky] at q0 t0
            cases q0
            cases t0
            refine oneLt_int ⟨rfl, ?_⟩
            rw [← fin, sg_neg]
mutual
theorem reads_keep {h h' : Heap} (hk : ∀ b o, h.get? b = some o → o.cls = .type "tuple" → h'.get? b = some o) : ∀ (d : PyData), isKy d = true → ∀ (v : Value) (as : List Addr), Reads h v d as → ∃ bs, Reads h' v d bs
  | .int i, _, v, as, r => by
    cases r
    exact ⟨_, .int _ _⟩
  | .tuple ds, k, v, as, r => by
    rw [isKy] at k
    cases r with
    | tuple h1 h2 h3 h4 =>
      obtain ⟨bs, r⟩ := reads_keepA hk ds k _ _ h4
      exact ⟨_, .tuple (hk _ _ h1 h2) h2 h3 r⟩
  | .none, h, _, _, _ => by simp only [isKy] at h; cases h
  | .bool _, h, _, _, _ => by simp only [isKy] at h; cases h
  | .str _, h, _, _, _ => by simp only [isKy] at h; cases h
  | .list _, h, _, _, _ => by simp only [isKy] at h; cases h
  | .dict _, h, _, _, _ => by simp only [isKy] at h; cases h
theorem reads_keepA {h h' : Heap} (hk : ∀ b o, h.get? b = some o → o.cls = .type "tuple" → h'.get? b = some o) : ∀ (ds : List PyData), isKyA ds = true → ∀ (vs : List Value) (as : List Addr), ReadsAll h vs ds as → ∃ bs, ReadsAll h' vs ds bs
  | [], _, vs, as, r => by
    cases r
    exact ⟨_, .nil⟩
  | d :: ds, k, vs, as, r => by
    rw [isKyA, Bool.and_eq_true] at k
    cases r with
    | cons r1 r2 =>
      obtain ⟨b1, q1⟩ := reads_keep hk d k.1 _ _ r1
      obtain ⟨b2, q2⟩ := reads_keepA hk ds k.2 _ _ r2
      exact ⟨_, .cons q1 q2⟩
end
theorem vals_refs_eq : ∀ {l : List Addr} {us : List Value}, Vals (l.map V.ref) us → us = l.map Value.ref
  | [], _, r => by cases r; rfl
  | a :: l, _, r => by
    cases r with
    | cons h t =>
      rw [vals_refs_eq t, List.map_cons]
      congr 1
theorem perm_map {α β : Type} {f : α → β} : ∀ {l : List β} {m : List α}, l.Perm (m.map f) → ∃ k : List α, k.Perm m ∧ l = k.map f := by
  intro l m h
  generalize e : m.map f = M at h
  induction h generalizing m with
  | nil => exact ⟨[], by have := List.map_eq_nil_iff.mp e; rw [this], rfl⟩
  | @cons x l1 l2 h ih =>
    obtain ⟨y, m', rfl, rfl, e'⟩ := List.map_eq_cons_iff.mp e
    obtain ⟨k, hk, rfl⟩ := ih e'
    exact ⟨y :: k, hk.cons _, rfl⟩
  | @swap x y l =>
    obtain ⟨u, m', rfl, rfl, e'⟩ := List.map_eq_cons_iff.mp e
    obtain ⟨v, m'', rfl, rfl, rfl⟩ := List.map_eq_cons_iff.mp e'
    exact ⟨v :: u :: m'', List.Perm.swap _ _ _, rfl⟩
  | @trans l1 l2 l3 h1 h2 ih1 ih2 =>
    obtain ⟨k, hk, rfl⟩ := ih2 e
    obtain ⟨k', hk', rfl⟩ := ih1 rfl
    exact ⟨k', hk'.trans hk, rfl⟩
theorem KIn.keep {N : Nat} {a b : Kd} {h h' : Heap} {v : Value} {k : PyData} (x : KIn N a b h v k) (hk : ∀ b o, h.get? b = some o → o.cls = .type "tuple" → h'.get? b = some o) : KIn N a b h' v k := by
  obtain ⟨m, as, r⟩ := x
  obtain ⟨x, y, hx, hy, rfl⟩ := id m
  have ik : isKy (.tuple [ky a x, ky b y]) = true := by simp only [isKy, isKyA, ky_isK hx, ky_isK hy, Bool.and_self]
  exact ⟨m, reads_keep hk _ ik _ _ r⟩
theorem kin_sortable {prog : Program} {w : World} {A : Around} {s : Shared} {N : Nat} {a b : Kd} {g : Value → PyData} {vs : List Value} {l : Addr} (h0 : 0 < vs.length) (ad : a.dep ≤ 8) (bd : b.dep ≤ 8) (hu : A.units + 20 < cLine)
    (hp : ∀ v ∈ vs, KIn N a b s.heap v (g v)) (hl : ∀ o, s.heap.get? l = some o → o.cls ≠ .type "tuple") : SrtO.SortableO prog w A s l vs fun v u => decide (enc (g v) < enc (g u)) := by
  intro h' keep
  have hp' : ∀ v ∈ vs, KIn N a b h' v (g v) := fun v hm => (hp v hm).keep fun c o e cl => keep c o (fun z => by subst z; exact hl o e cl) e
  -- the first items
  have fs : ∀ v ∈ vs, ∃ (c : Addr) (o : Obj) (xs : Array Value) (n : Nat) (f : Value) (x : PyData), v = .ref c ∧ h'.get? c = some o ∧ o.cls = .type "tuple" ∧ o.data = .seq xs n ∧ xs[0]? = some f ∧ VV N a x ∧ ∃ as, Reads h' f (ky a x) as := fun v hm => by
    obtain ⟨⟨x, y, hx, hy, e⟩, as, r⟩ := hp' v hm
    rw [e] at r
    cases r with
    | @tuple c o ws n _ _ ho hcl hd ra =>
      generalize ew : ws.toList = W at ra
      cases ra with
      | @cons v0 _ _ _ _ _ q0 ra => exact ⟨c, o, ws, n, v0, x, rfl, ho, hcl, hd, by rw [← Array.getElem?_toList, ew]; rfl, hx, _, q0⟩
  have tups : ∀ l : List Value, (∀ v ∈ l, v ∈ vs) → ∃ fl, PySem.W.KatTups h' l fl ∧ fl.length = l.length ∧ ∀ f ∈ fl, ∃ x as, VV N a x ∧ Reads h' f (ky a x) as := by
    intro l
    induction l with
    | nil => exact fun _ => ⟨[], PySem.W.KatTups.nil, rfl, fun f hf => nomatch hf⟩
    | cons v l ih =>
      intro hl
      obtain ⟨fl, t, e, k⟩ := ih fun u hu => hl u (List.mem_cons_of_mem _ hu)
      obtain ⟨c, o, xs, n, f, x, rfl, ho, hcl, hd, hf, hx, as, q⟩ := fs v (hl v List.mem_cons_self)
      refine ⟨f :: fl, PySem.W.KatTups.cons ho hcl hd hf t, by rw [List.length_cons, List.length_cons, e], fun f' hf' => ?_⟩
      rcases List.mem_cons.mp hf' with z | z
      · rw [z]; exact ⟨x, as, hx, q⟩
      · exact k f' z
  obtain ⟨fl, t, el, kf⟩ := tups vs fun v hv => hv
  by_cases ea : a = .num
  · subst ea
    refine ⟨tuples' true, fun Q E hq => ?_, kin_cmp ad bd hu (fun _ => rfl) hp'⟩
    refine PySem.W.kat_kind (T := .type "int") t (by omega) (fun f hm => ?_) (by rfl) ?_
    · obtain ⟨x, as, hx, q⟩ := kf f hm
      cases hx with
      | num i _ =>
        simp only [ky] at q
        cases q
        exact PySem.W.Looks.now
    · (have e : (Value.type "int" != Value.type "tuple") = true := by first | decide +kernel | rfl | decide)
      rw [e]
      exact hq
  · refine ⟨tuples' false, fun Q E hq => ?_, kin_cmp ad bd hu (fun z => nomatch z) hp'⟩
    refine PySem.W.kat_kind (T := .type "tuple") t (by omega) (fun f hm => ?_) (by rfl) ?_
    · obtain ⟨x, as, hx, q⟩ := kf f hm
      have tup : ∃ ds, ky a x = .tuple ds := by
        have nn : ¬ (("right" : Str) = "left") := by decide
        cases hx with
        | num i _ => exact absurd rfl ea
        | unit => exact ⟨_, rfl⟩
        | lst hl h => exact ⟨_, rfl⟩
        | pair hx hy => exact ⟨_, rfl⟩
        | left hx => simp only [ky, if_true]; exact ⟨_, rfl⟩
        | right hx => simp only [ky, if_neg nn]; exact ⟨_, rfl⟩
      obtain ⟨ds, e⟩ := tup
      rw [e] at q
      cases q with
      | tuple h1 h2 h3 h4 => exact fun A Q E s k q => PySem.wpAny_typeOf_ref (k _ _ h1) (by rw [h2]; exact q)
    · have e : (Value.type "tuple" != Value.type "tuple") = false := by first | decide +kernel | rfl | decide
      rw [e]
      exact hq
def rSortN : List V → Hp → VK → Prop := fun vs H Q => ∃ (L : Addr) (xs : List Ent) (a b : Kd) (N : Nat), vs = [.ref L] ∧ H L = some (.lst (xs.map fun x => V.ref x.2.1)) ∧ xs.length ≤ 1000 ∧ a.dep ≤ 8 ∧ b.dep ≤ 8 ∧
  (∀ x ∈ xs, K2 N a b x.1 ∧ ∃ F, Dt F H (.ref x.2.1) x.1) ∧ ∀ (p : Addr) (ys : List Ent), H p = none → ys.Perm xs → Q (.ref p) (upd H p (.lst (ys.map fun x => V.ref x.2.1)))
def look (xs : List Ent) (v : Value) : PyData := match xs.find? (fun x => decide (Value.ref x.2.1 = v)) with
  | some x => x.1
  | none => .none
theorem look_mem {xs : List Ent} {v : Value} (h : v ∈ xs.map fun x => Value.ref x.2.1) : ∃ x ∈ xs, Value.ref x.2.1 = v ∧ look xs v = x.1 := by
  obtain ⟨y, hy, e⟩ := List.mem_map.mp h
  unfold look
  cases q : xs.find? (fun x => decide (Value.ref x.2.1 = v)) with
  | none =>
    have := List.find?_eq_none.mp q y hy
    simp [e] at this
  | some x => exact ⟨x, List.mem_of_find?_eq_some q, of_decide_eq_true (List.find?_some (p := fun x : Ent => decide (Value.ref x.2.1 = v)) q), rfl⟩
section
variable {X : Cx}
theorem cr_sortedN (hS : SysIn X.K) {n : Nat} (hr : Room n X.A) : CallR X (.builtin "sorted") rSortN := by
  (intro pins s σ H vs us Q I r h)
  obtain ⟨L, xs, a, b, N, rfl, hs, hz, ad, bd, hx, q⟩ := h
  obtain ⟨its, rv, hl, _⟩ := I.list (SqL.of hs)
  (obtain ⟨u, rfl, ru⟩ := vals1 r)
  obtain rfl : u = Value.ref L := ru
  have ei : its = xs.map fun x => Value.ref x.2.1 := by
    have em : (xs.map fun x => V.ref x.2.1) = (xs.map fun x => x.2.1).map V.ref := by rw [List.map_map]; rfl
    rw [em] at rv
    have := vals_refs_eq rv
    rw [this, List.map_map]
    rfl
  have room := hr.un
  have lz : its.length ≤ sizeLine := by rw [ei, List.length_map, sizeLine_eq]; omega
  have kin : ∀ v ∈ its, KIn N a b s.heap v (look xs v) := fun v hv => by
    rw [ei] at hv
    obtain ⟨x, hm, e1, e2⟩ := look_mem hv
    obtain ⟨k, F, t⟩ := hx x hm
    obtain ⟨as, rd, _⟩ := t.reads I hS (u := .ref x.2.1) rfl
    rw [e2, ← e1]
    exact ⟨k, as, rd⟩
  refine SrtO.sorted_ord (swo_enc (look xs)) hl.isList lz (fun h2 h₁ c ha kk => ?_) fun out _ hb => ?_
  · refine kin_sortable (s := { s with heap := h₁ }) (by omega) ad bd (by show X.A.units + 1 + 1 + 20 < cLine; omega) (fun v hm => (kin v hm).keep fun b o e _ => (kk b o e).2) fun o e => ?_
    have e' : some o = some (seqObj "list" its.toArray 0) := e.symm.trans ha
    cases e'
    intro c
    (exact absurd (Value.type.inj c) (by decide))
  · have pm : out.Perm its := hb.perm
    rw [ei] at pm
    obtain ⟨ys, hy, e⟩ := perm_map pm
    have d := sortedAll_at s.heap its out.toArray
    obtain ⟨n, hn⟩ := d
    have nd : s.heap.objs.size ≤ s.heap.objs.size + 1 := Nat.le_succ _
    refine ⟨.ref (s.heap.objs.size + 1), upd H (s.heap.objs.size + 1) (.lst (ys.map fun x => V.ref x.2.1)), I.laid (t' := s.toks) (fun b o e => sortedAll_old e) nd ⟨?_, out, n, ?_, hn⟩, rfl, q _ ys (I.hok.fresh nd) hy⟩
    · rw [List.length_map, hy.length_eq, sizeLine_eq]; omega
    · rw [e]
      have em : (ys.map fun x => V.ref x.2.1) = (ys.map fun x => x.2.1).map V.ref := by rw [List.map_map]; rfl
      have em2 : (ys.map fun x => Value.ref x.2.1) = (ys.map fun x => x.2.1).map Value.ref := by rw [List.map_map]; rfl
      rw [em, em2]
      exact vals_refs _
end
end KB
namespace KB
open PySem L2 PySem.Spec PyProof.Rows
section
variable {X : Cx}
def rNeE (K : PySem.W.Frag) : R2 := fun x y H Q => ∃ (a e : Addr) (xs : List V), x = .ref a ∧ y = .ref e ∧ SqT K H a xs ∧ SqT K H e [] ∧ Q (.bl (!decide (xs.length = 0))) H
theorem op_neE (hu : X.A.units < cLine) : OpR X (compareOp .NotEq) (rNeE X.K) := by
  (intro pins s σ H x y v u Q I rx ry h)
  obtain ⟨a, e, xs, rfl, rfl, ha, he, q⟩ := h
  (cases (show v = Value.ref a from rx))
  cases (show u = Value.ref e from ry)
  (obtain ⟨its, r1, p1, _⟩ := I.tuple ha)
  obtain ⟨its2, r2, p2, _⟩ := I.tuple he
  cases r2
  have l1 := r1.length
  refine SeqAt.RcNeAt.tuples (e := fun _ => true) p1 p2 hu (fun j _ h2 => absurd h2 (Nat.not_lt_zero j)) X.prog X.w _ _ ⟨.bl (!decide (xs.length = 0)), H, I, ?_, q⟩
  have : (!((List.range (min its.toArray.size ([] : List Value).toArray.size)).all (fun _ => true) && its.toArray.size == ([] : List Value).toArray.size)) = !decide (xs.length = 0) := by
    rw [l1]
    show (!((List.range (min its.length 0)).all (fun _ => true) && its.length == 0)) = !decide (its.length = 0)
    rw [Nat.min_zero]
    show (!(true && its.length == 0)) = _
    rw [Bool.true_and]
    rfl
  rw [this]
  rfl
def rNeVV : R2 := fun x y H Q => ∃ (F : Addr → Prop) (d e : PyData), Dt F H x d ∧ Dt F H y e ∧ d.plain = true ∧ e.plain = true ∧ d.depth ≤ 190 ∧ Q (.bl (!PyData.eqv d e)) H
theorem op_neVV (hS : SysIn X.K) {n : Nat} (hr : Room n X.A) : OpR X (compareOp .NotEq) rNeVV := by
  (intro pins s σ H x y v u Q I rx ry h)
  obtain ⟨F, d, e, hd, he, pd, pe, dd, q⟩ := h
  obtain ⟨as, r1, _⟩ := hd.reads I hS rx
  obtain ⟨bs, r2, _⟩ := he.reads I hS ry
  have room := hr.un
  have hm := Nat.min_le_left d.depth e.depth
  exact SeqAt.ne_plain r1 r2 pd pe (by omega) ⟨.bl _, H, I, rfl, q⟩
def rLtPV : R2 := fun x y H Q => ∃ (F : Addr → Prop) (N : Nat) (a b : Kd) (d e d' e' : PyData), Dt F H x (.tuple [d, e]) ∧ Dt F H y (.tuple [d', e']) ∧ VV N a d ∧ VV N b e ∧ VV N a d' ∧ VV N b e' ∧ a.dep ≤ 100 ∧ b.dep ≤ 100 ∧ Q (.bl (lt2b (cmpF a d d') (cmpF b e e'))) H
theorem op_ltPV (hS : SysIn X.K) {n : Nat} (hr : Room n X.A) : OpR X (compareOp .Lt) rLtPV := by
  (intro pins s σ H x y v u Q I rx ry h)
  obtain ⟨F, N, a, b, d, e, d', e', hd, he, v1, v2, v3, v4, da, db, q⟩ := h
  obtain ⟨as, r1, _⟩ := hd.reads I hS rx
  obtain ⟨bs, r2, _⟩ := he.reads I hS ry
  have room := hr.un
  obtain ⟨c1, m1⟩ := cm_ex v1 v3
  obtain ⟨c2, m2⟩ := cm_ex v2 v4
  rw [← cm_fun m1, ← cm_fun m2] at q
  have d1 := vv_depth v1
  have d2 := vv_depth v2
  have e0 : PyData.depth (.tuple [d, e]) ≤ 101 := by simp only [PyData.depth, PyData.depthAll]; omega
  exact lt_two r1 r2 (vv_plain v1) (vv_plain v2) (vv_plain v3) (vv_plain v4) (by omega) (cm_eqv m1) (cm_eqv m2)
    (fun z v w av aw q1 q2 hu => cm_lt m1 q1 q2 z (vv_plain v1) (vv_plain v3) hu) (fun z v w av aw q1 q2 hu => cm_lt m2 q1 q2 z (vv_plain v2) (vv_plain v4) hu) X.prog X.w _ _ ⟨.bl _, H, I, rfl, q⟩
def rLtPK : R2 := fun x y H Q => ∃ (F : Addr → Prop) (N : Nat) (a b : Kd) (d e d' e' : PyData), Dt F H x (.tuple [ky a d, ky b e]) ∧ Dt F H y (.tuple [ky a d', ky b e']) ∧ VV N a d ∧ VV N b e ∧ VV N a d' ∧ VV N b e' ∧ a.dep ≤ 100 ∧ b.dep ≤ 100 ∧ Q (.bl (lt2b (cmpF a d d') (cmpF b e e'))) H
theorem op_ltPK (hS : SysIn X.K) {n : Nat} (hr : Room n X.A) : OpR X (compareOp .Lt) rLtPK := by
  (intro pins s σ H x y v u Q I rx ry h)
  obtain ⟨F, N, a, b, d, e, d', e', hd, he, v1, v2, v3, v4, da, db, q⟩ := h
  obtain ⟨as, r1, _⟩ := hd.reads I hS rx
  obtain ⟨bs, r2, _⟩ := he.reads I hS ry
  have room := hr.un
  obtain ⟨c1, m1⟩ := cm_ex v1 v3
  obtain ⟨c2, m2⟩ := cm_ex v2 v4
  rw [← cm_fun m1, ← cm_fun m2] at q
  have d1 := ky_depth v1
  have d2 := ky_depth v2
  have e0 : PyData.depth (.tuple [ky a d, ky b e]) ≤ 101 := by simp only [PyData.depth, PyData.depthAll]; omega
  exact lt_two r1 r2 (ky_plain v1) (ky_plain v2) (ky_plain v3) (ky_plain v4) (by omega) (ky_eqv m1) (ky_eqv m2)
    (fun z v w av aw q1 q2 hu => ky_lt m1 q1 q2 z (ky_plain v1) (ky_plain v3) hu) (fun z v w av aw q1 q2 hu => ky_lt m2 q1 q2 z (ky_plain v2) (ky_plain v4) hu) X.prog X.w _ _ ⟨.bl _, H, I, rfl, q⟩
end
end KB
namespace N3
open PySem PySem.Spec PyProof.Rows L2 KB
section
variable {K : PySem.W.Frag} {mg : Str → Option Value} {base : Heap} {P : Program} {w : World}
def abcV : List V := [.str "a", .str "b", .str "c"]
def spFm (n : Nat) : Sp := fun vs H Q _ => ∃ (w t : Addr) (lot : Str) (c : Int), vs = [.ref w, .int n, .ref t, .str lot] ∧ Wl H w c ∧ c + Ck n < 2 ^ 60 ∧ H t = some (.tup abcV) ∧ (lot = "any" ∨ lot = "tried" ∨ lot = "small") ∧
  ∀ (v : V) (k : Kd) (c' : Int) (H' : Hp), Dt (Nw w) H' v k.d → k.dep ≤ n + 1 → k.okv = true → Kw w H H' → Wl H' w c' → c' ≤ c + Ck n → Q v H'
theorem wl_ne {H : Hp} {w t : Addr} {c : Int} {xs : List V} (hw : Wl H w c) (h : H t = some (.tup xs)) : t ≠ w := by
  obtain ⟨n, m, e, _⟩ := hw
  intro z
  rw [z, e] at h
  cases h
abbrev nForm : List Str := ["_law_well_here", "_law_left", "_law_names_here", "_law_lot", "_law_way", "_law_home", "_law_lead"]
theorem sc_nForm : FnScope nForm ["_law_well_here", "_law_left", "_law_names_here", "_law_lot"] (defScope (top 48)) := ⟨rfl, rfl, rfl, by decide +kernel, rfl, by decide +kernel, by decide +kernel⟩
theorem form_body (n : Nat) {f : Addr} {fd : FuncData} {spR : Sp} (F : FnP K "_law_form" (top 48) f fd) (T : Bl K mg) (hDip : Has P w K mg base "_law_dip" ["_law_well_here", "_law_top"] 1 spDraw) (hPick : Has P w K mg base "_law_pick" ["_law_well_here", "_law_some"] 2 (spPick K))
    (gR : mg "_law_form" = some (.ref f)) (bR : Binds K fd ["_law_well_here", "_law_left", "_law_names_here", "_law_lot"] []) (GR : FnOk P w K mg base CX0 (2 + n) f fd ["_law_well_here", "_law_left", "_law_names_here", "_law_lot"] spR)
    (hR : ∀ m, n = m + 1 → ∀ vs H Q, spFm m vs H Q E0 → spR vs H Q E0) : FnOk P w K mg base CX0 (2 + n + 1) f fd ["_law_well_here", "_law_left", "_law_names_here", "_law_lot"] (spFm n) := by
  obtain ⟨fDip, fdDip, kDip, gDip, bDip, GDip⟩ := hDip
  obtain ⟨fPick, fdPick, kPick, gPick, bPick, GPick⟩ := hPick
  refine F.ok sc_nForm (fun vs H Q E h => ?_) (fun cdv A outer s H vs Q E hr h => ?_)
  · obtain ⟨w, t, lot, c, rfl, _⟩ := h
    rfl
  · obtain ⟨w, t, lot, c, rfl, hw, hc, ht, hl, q⟩ := h
    have sc := sc_nForm
    have hrDip : Room 1 _ := hr.mono (by omega)
    have hrPick : Room 2 _ := hr.mono (by omega)
    have hrR : Room (2 + n) _ := hr
    have t2 := Ck_ge n
    refine ⟨_, PSs.nox (pss_cons (ps_set (i := 4) sc.nd rfl (Or.inl rfl) (pe_ifExp (pt_cmpR op_gt (pv 1) pe_int (nomark _)) (pe_call GDip hrDip rfl gDip kDip bDip .nil pass0 (pa_cons (pv 0) (pa_cons pe_int pa_nil))) (pe_call GDip hrDip rfl gDip kDip bDip .nil pass0 (pa_cons (pv 0) (pa_cons pe_int pa_nil))))) (pss_cons (ps_if (PW.pt (pw_and (pt_cmpR op_lt (pv 4) pe_int (nomark _)) (pw_and1 (pt_cmpR (op_neE hr.units0) (pv 2) (pe_tup pa_nil) (nomark _))))) (pss_one (ps_ret (pe_tup (pa_cons pe_str (pa_cons (pe_call GPick hrPick rfl gPick kPick bPick .nil pass0 (pa_cons (pv 0) (pa_cons (pv 2) pa_nil))) pa_nil))))) pss_nil) (pss_cons (ps_if (pt_cmpR op_lt (pv 4) pe_int (nomark _)) (pss_one (ps_ret (pe_ifExp (PW.pt (pw_or (pt_cmpR op_eq (pv 3) pe_str (nomark _)) (pw_or1 (pt_cmpR op_eq (pv 4) pe_int (nomark _))))) (pe_tup (pa_cons pe_str pa_nil)) (pe_tup (pa_cons pe_str pa_nil))))) pss_nil) (pss_cons (ps_if (PW.pt (pw_and (pt_cmpR op_lt (pv 4) pe_int (nomark _)) (pw_and1 (pt_cmpR op_ne (pv 3) pe_str (nomark _))))) (pss_one (ps_ret (pe_tup (pa_cons pe_str (pa_cons (pe_call GR hrR rfl gR F.kp bR .nil pass0 (pa_cons (pv 0) (pa_cons (pe_op op_sub (pv 1) pe_int) (pa_cons (pv 2) (pa_cons (pv 3) pa_nil))))) pa_nil))))) pss_nil) (pss_cons (ps_if (PW.pt (pw_and (pt_cmpR op_gt (pv 4) pe_int (nomark _)) (pw_and1 (pt_cmpR op_in_seq (pv 3) (pe_tup (pa_cons pe_str (pa_cons pe_str pa_nil))) (by rfl))))) (pss_cons (ps_set (i := 5) sc.nd rfl (Or.inl rfl) (pe_call GR hrR rfl gR F.kp bR .nil pass0 (pa_cons (pv 0) (pa_cons (pe_op op_sub (pv 1) pe_int) (pa_cons (pv 2) (pa_cons (pe_ifExp (pt_cmpR op_eq (pv 3) pe_str (nomark _)) pe_str (pv 3)) pa_nil)))))) (pss_one (ps_ret (pe_tup (pa_cons pe_str (pa_cons (pv 5) (pa_cons (pe_call GR hrR rfl gR F.kp bR .nil pass0 (pa_cons (pv 0) (pa_cons (pe_op op_sub (pv 1) pe_int) (pa_cons (pv 2) (pa_cons (pv 3) pa_nil))))) pa_nil))))))) pss_nil) (pss_cons (ps_set (i := 6) sc.nd rfl (Or.inl rfl) (pe_call GR hrR rfl gR F.kp bR .nil pass0 (pa_cons (pv 0) (pa_cons (pe_op op_sub (pv 1) pe_int) (pa_cons (pv 2) (pa_cons (pv 3) pa_nil)))))) (pss_one (ps_ret (pe_tup (pa_cons (pe_ifExp (pt_cmpR op_eq (pe_op op_mod (pe_callTy call_int1 (by rfl) T.int (by decide +kernel) (pa_cons (pv 4) pa_nil)) pe_int) pe_int (nomark _)) pe_str pe_str) (pa_cons (pv 6) (pa_cons (pe_call GR hrR rfl gR F.kp bR .nil pass0 (pa_cons (pv 0) (pa_cons (pe_op op_sub (pv 1) pe_int) (pa_cons (pv 2) (pa_cons (pv 3) pa_nil))))) pa_nil)))))))))))), ?_⟩
    have big : ∀ k : Nat, k ≤ 1000 → k ≤ sizeLine := fun k h => Nat.le_of_lt (small1000 h)
    have lay : ∀ {c2 : Int} {H2 : Hp} {p : Addr} {xs : List V} {ds : List PyData}, Wl H2 w c2 → H2 p = none → DtA (Nw w) H2 xs ds → Dt (Nw w) (upd H2 p (.tup xs)) (.ref p) (.tuple ds) := fun w2 np dd =>
      .tup (w2.ne np).symm upd_same (dd.kw (Kw.new np))
    have tw := wl_ne hw ht
    refine way_draw (n := n) rfl rfl hw (by omega) (by decide) (by decide) fun b c1 H1 b0 b1 k1 w1 e1 => ?_
    have ht1 := k1 t _ tw ht
    have next : ¬ b < 6 → ∃ m, n = m + 1 := fun z => by
      have := b1.resolve_left z
      exact ⟨n - 1, by omega⟩
    refine ⟨_, rfl, _, _, rfl, rfl, _, rfl, ite2 (fun g1 => ?_) (fun g1 => ?_)⟩
    · refine ⟨_, rfl, (by show 0 ≤ sizeLine; decide), fun e0 ne => ?_⟩
      have sm := @Same.new e0 _ (.tup []) ne
      refine ⟨t, e0, abcV, rfl, rfl, SqT.of (sm t _ ht1), SqT.of upd_same, _, rfl, ite2 (fun _ => ?_) (fun z => absurd (by rfl) z)⟩
      refine ⟨_, rfl, _, rfl, w, t, abcV, c1, rfl, w1.same sm, by omega, SqT.of (sm t _ ht1), by decide, by decide, fun i v c2 H2 hi k2 w2 e2 => ?_⟩
      obtain ⟨x, rfl, ox⟩ : ∃ x, v = V.str x ∧ (Kd.var x).okv = true := by
        match i, hi with
        | 0, hi => exact ⟨_, (Option.some.inj hi).symm, by decide⟩
        | 1, hi => exact ⟨_, (Option.some.inj hi).symm, by decide⟩
        | 2, hi => exact ⟨_, (Option.some.inj hi).symm, by decide⟩
      refine ⟨big _ (by show (2 : Nat) ≤ 1000; decide), fun p np => ?_⟩
      exact q _ (.var x) c2 _ (lay w2 np (.cons (.str _) (.cons (.str _) .nil))) (Nat.le_add_left _ _) ox (k1.trans ((Kw.same sm).trans (k2.trans (Kw.new np)))) (w2.same (Same.new np)) (by omega)
    have unit_ : ∀ p, H1 p = none → Q (.ref p) (upd H1 p (.tup [.str "unit"])) := fun p np => q _ .unit c1 _ (lay w1 np (.cons (.str _) .nil)) (Nat.le_add_left _ _) rfl (k1.trans (Kw.new np)) (w1.same (Same.new np)) (by omega)
    have num_ : ∀ p, H1 p = none → Q (.ref p) (upd H1 p (.tup [.str "num"])) := fun p np => q _ .num c1 _ (lay w1 np (.cons (.str _) .nil)) (Nat.le_add_left _ _) rfl (k1.trans (Kw.new np)) (w1.same (Same.new np)) (by omega)
    refine iteF ?_
    refine ⟨_, rfl, _, _, rfl, rfl, _, rfl, ite2 (fun g2 => ?_) (fun g2 => ?_)⟩
    · refine ⟨_, rfl, rfl, _, rfl, ite2 (fun _ => iteT ⟨big _ (by show (1 : Nat) ≤ 1000; decide), unit_⟩) (fun _ => ⟨_, rfl, rfl, _, rfl, ite2 (fun _ => ⟨big _ (by show (1 : Nat) ≤ 1000; decide), unit_⟩) (fun _ => ⟨big _ (by show (1 : Nat) ≤ 1000; decide), num_⟩)⟩)⟩
    obtain ⟨m, rfl⟩ := next fun z => g2 (decide_eq_true z)
    have tm := Ck_ge m
    have tt : Ck (m + 1) = 2 * Ck m + 2 := rfl
    have em : (((m + 1 : Nat) : Int) - 1) = (m : Int) := by omega
    refine ⟨_, rfl, _, _, rfl, rfl, _, rfl, ite2 (fun g3 => ?_) (fun g3 => ?_)⟩
    · refine ⟨_, rfl, rfl, _, rfl, ite2 (fun g4 => ?_) (fun g4 => ?_)⟩
      · refine ⟨_, rfl, _, rfl, _, _, rfl, rfl, _, rfl, _, rfl, hR m rfl _ _ _ ⟨w, t, lot, c1, by show [V.ref w, V.int (((m + 1 : Nat) : Int) - 1), V.ref t, V.str lot] = _; rw [em], w1, by omega, ht1, hl, fun v2 kd2 c2 H2 d2 p2 o2 k2 w2 e2 => ?_⟩⟩
        refine ⟨big _ (by show (2 : Nat) ≤ 1000; decide), fun p np => ?_⟩
        exact q _ (.lst kd2) c2 _ (lay w2 np (.cons (.str _) (.cons d2 .nil))) (Nat.succ_le_succ p2) o2 (k1.trans (k2.trans (Kw.new np))) (w2.same (Same.new np)) (by omega)
      · skip
        refine ⟨_, rfl, _, _, rfl, rfl, _, rfl, ite2 (fun g5 => ?_) (fun g5 => ?_)⟩
        · refine ⟨_, rfl, big _ (by show (2 : Nat) ≤ 1000; decide), fun t2 nt2 => ?_⟩
          have sm2 := @Same.new t2 _ (.tup [.str "tried", .str "any"]) nt2
          refine ⟨t2, _, rfl, .inr (SqT.of upd_same), rfl, rfl, _, rfl, ite2 (fun g7 => ?_) (fun g7 => ?_)⟩
          · skip
            have k1' := k1.trans (Kw.same sm2)
            have w1' := w1.same sm2
            have ht1' := sm2 t _ ht1
            refine ⟨_, rfl, _, rfl, _, _, rfl, rfl, _, rfl, _, rfl, rfl, _, rfl, ite2 (fun g8 => ?_) (fun g8 => ?_)⟩
            · refine hR m rfl _ _ _ ⟨w, t, "small", c1, by show [V.ref w, V.int (((m + 1 : Nat) : Int) - 1), V.ref t, V.str "small"] = _; rw [em], w1', by omega, ht1', (.inr (.inr rfl)), fun v2 kd2 c2 H2 d2 p2 o2 k2 w2 e2 => ?_⟩
              refine ⟨_, rfl, _, rfl, _, rfl, _, _, rfl, rfl, _, rfl, _, rfl, hR m rfl _ _ _ ⟨w, t, lot, c2, by show [V.ref w, V.int (((m + 1 : Nat) : Int) - 1), V.ref t, V.str lot] = _; rw [em], w2, by omega, (k2 t _ tw ht1'), hl, fun v3 kd3 c3 H3 d3 p3 o3 k3 w3 e3 => ?_⟩⟩
              refine ⟨big _ (by show (3 : Nat) ≤ 1000; decide), fun p np => ?_⟩
              exact q _ (.fn kd2 kd3) c3 _ (lay w3 np (.cons (.str _) (.cons (d2.kw k3) (.cons d3 .nil)))) (by show max kd2.dep kd3.dep + 1 ≤ m + 1 + 1; omega) (by show (kd2.okv && kd3.okv) = true; rw [o2, o3]; rfl) (k1'.trans (k2.trans (k3.trans (Kw.new np)))) (w3.same (Same.new np)) (by omega)
            · refine ⟨_, rfl, hR m rfl _ _ _ ⟨w, t, lot, c1, by show [V.ref w, V.int (((m + 1 : Nat) : Int) - 1), V.ref t, V.str lot] = _; rw [em], w1', by omega, ht1', hl, fun v2 kd2 c2 H2 d2 p2 o2 k2 w2 e2 => ?_⟩⟩
              refine ⟨_, rfl, _, rfl, _, rfl, _, _, rfl, rfl, _, rfl, _, rfl, hR m rfl _ _ _ ⟨w, t, lot, c2, by show [V.ref w, V.int (((m + 1 : Nat) : Int) - 1), V.ref t, V.str lot] = _; rw [em], w2, by omega, (k2 t _ tw ht1'), hl, fun v3 kd3 c3 H3 d3 p3 o3 k3 w3 e3 => ?_⟩⟩
              refine ⟨big _ (by show (3 : Nat) ≤ 1000; decide), fun p np => ?_⟩
              exact q _ (.fn kd2 kd3) c3 _ (lay w3 np (.cons (.str _) (.cons (d2.kw k3) (.cons d3 .nil)))) (by show max kd2.dep kd3.dep + 1 ≤ m + 1 + 1; omega) (by show (kd2.okv && kd3.okv) = true; rw [o2, o3]; rfl) (k1'.trans (k2.trans (k3.trans (Kw.new np)))) (w3.same (Same.new np)) (by omega)
          · skip
            have k1' := k1.trans (Kw.same sm2)
            have w1' := w1.same sm2
            have ht1' := sm2 t _ ht1
            refine ⟨_, rfl, _, rfl, _, _, rfl, rfl, _, rfl, _, rfl, hR m rfl _ _ _ ⟨w, t, lot, c1, by show [V.ref w, V.int (((m + 1 : Nat) : Int) - 1), V.ref t, V.str lot] = _; rw [em], w1', by omega, ht1', hl, fun v2 kd2 c2 H2 d2 p2 o2 k2 w2 e2 => ?_⟩⟩
            refine ⟨_, rfl, .inl ⟨_, rfl, _, _, rfl, rfl, (by decide : (0 : Int) < 2), rfl, _, rfl, ite2 (fun g6 => ?_) (fun g6 => ?_)⟩⟩
            · skip
              refine ⟨_, rfl, _, rfl, _, rfl, _, _, rfl, rfl, _, rfl, _, rfl, hR m rfl _ _ _ ⟨w, t, lot, c2, by show [V.ref w, V.int (((m + 1 : Nat) : Int) - 1), V.ref t, V.str lot] = _; rw [em], w2, by omega, (k2 t _ tw ht1'), hl, fun v3 kd3 c3 H3 d3 p3 o3 k3 w3 e3 => ?_⟩⟩
              refine ⟨big _ (by show (3 : Nat) ≤ 1000; decide), fun p np => ?_⟩
              exact q _ (.pair kd2 kd3) c3 _ (lay w3 np (.cons (.str _) (.cons (d2.kw k3) (.cons d3 .nil)))) (by show max kd2.dep kd3.dep + 1 ≤ m + 1 + 1; omega) (by show (kd2.okv && kd3.okv) = true; rw [o2, o3]; rfl) (k1'.trans (k2.trans (k3.trans (Kw.new np)))) (w3.same (Same.new np)) (by omega)
            · skip
              refine ⟨_, rfl, _, rfl, _, rfl, _, _, rfl, rfl, _, rfl, _, rfl, hR m rfl _ _ _ ⟨w, t, lot, c2, by show [V.ref w, V.int (((m + 1 : Nat) : Int) - 1), V.ref t, V.str lot] = _; rw [em], w2, by omega, (k2 t _ tw ht1'), hl, fun v3 kd3 c3 H3 d3 p3 o3 k3 w3 e3 => ?_⟩⟩
              refine ⟨big _ (by show (3 : Nat) ≤ 1000; decide), fun p np => ?_⟩
              exact q _ (.eith kd2 kd3) c3 _ (lay w3 np (.cons (.str _) (.cons (d2.kw k3) (.cons d3 .nil)))) (by show max kd2.dep kd3.dep + 1 ≤ m + 1 + 1; omega) (by show (kd2.okv && kd3.okv) = true; rw [o2, o3]; rfl) (k1'.trans (k2.trans (k3.trans (Kw.new np)))) (w3.same (Same.new np)) (by omega)
        · refine iteF ?_
          have k1' := k1
          have w1' := w1
          have ht1' := ht1
          refine ⟨_, rfl, _, rfl, _, _, rfl, rfl, _, rfl, _, rfl, hR m rfl _ _ _ ⟨w, t, lot, c1, by show [V.ref w, V.int (((m + 1 : Nat) : Int) - 1), V.ref t, V.str lot] = _; rw [em], w1', by omega, ht1', hl, fun v2 kd2 c2 H2 d2 p2 o2 k2 w2 e2 => ?_⟩⟩
          refine ⟨_, rfl, .inl ⟨_, rfl, _, _, rfl, rfl, (by decide : (0 : Int) < 2), rfl, _, rfl, ite2 (fun g6 => ?_) (fun g6 => ?_)⟩⟩
          · skip
            refine ⟨_, rfl, _, rfl, _, rfl, _, _, rfl, rfl, _, rfl, _, rfl, hR m rfl _ _ _ ⟨w, t, lot, c2, by show [V.ref w, V.int (((m + 1 : Nat) : Int) - 1), V.ref t, V.str lot] = _; rw [em], w2, by omega, (k2 t _ tw ht1'), hl, fun v3 kd3 c3 H3 d3 p3 o3 k3 w3 e3 => ?_⟩⟩
            refine ⟨big _ (by show (3 : Nat) ≤ 1000; decide), fun p np => ?_⟩
            exact q _ (.pair kd2 kd3) c3 _ (lay w3 np (.cons (.str _) (.cons (d2.kw k3) (.cons d3 .nil)))) (by show max kd2.dep kd3.dep + 1 ≤ m + 1 + 1; omega) (by show (kd2.okv && kd3.okv) = true; rw [o2, o3]; rfl) (k1'.trans (k2.trans (k3.trans (Kw.new np)))) (w3.same (Same.new np)) (by omega)
          · skip
            refine ⟨_, rfl, _, rfl, _, rfl, _, _, rfl, rfl, _, rfl, _, rfl, hR m rfl _ _ _ ⟨w, t, lot, c2, by show [V.ref w, V.int (((m + 1 : Nat) : Int) - 1), V.ref t, V.str lot] = _; rw [em], w2, by omega, (k2 t _ tw ht1'), hl, fun v3 kd3 c3 H3 d3 p3 o3 k3 w3 e3 => ?_⟩⟩
            refine ⟨big _ (by show (3 : Nat) ≤ 1000; decide), fun p np => ?_⟩
            exact q _ (.eith kd2 kd3) c3 _ (lay w3 np (.cons (.str _) (.cons (d2.kw k3) (.cons d3 .nil)))) (by show max kd2.dep kd3.dep + 1 ≤ m + 1 + 1; omega) (by show (kd2.okv && kd3.okv) = true; rw [o2, o3]; rfl) (k1'.trans (k2.trans (k3.trans (Kw.new np)))) (w3.same (Same.new np)) (by omega)
    · refine iteF ?_
      refine ⟨_, rfl, _, _, rfl, rfl, _, rfl, ite2 (fun g5 => ?_) (fun g5 => ?_)⟩
      · refine ⟨_, rfl, big _ (by show (2 : Nat) ≤ 1000; decide), fun t2 nt2 => ?_⟩
        have sm2 := @Same.new t2 _ (.tup [.str "tried", .str "any"]) nt2
        refine ⟨t2, _, rfl, .inr (SqT.of upd_same), rfl, rfl, _, rfl, ite2 (fun g7 => ?_) (fun g7 => ?_)⟩
        · skip
          have k1' := k1.trans (Kw.same sm2)
          have w1' := w1.same sm2
          have ht1' := sm2 t _ ht1
          refine ⟨_, rfl, _, rfl, _, _, rfl, rfl, _, rfl, _, rfl, rfl, _, rfl, ite2 (fun g8 => ?_) (fun g8 => ?_)⟩
          · refine hR m rfl _ _ _ ⟨w, t, "small", c1, by show [V.ref w, V.int (((m + 1 : Nat) : Int) - 1), V.ref t, V.str "small"] = _; rw [em], w1', by omega, ht1', (.inr (.inr rfl)), fun v2 kd2 c2 H2 d2 p2 o2 k2 w2 e2 => ?_⟩
            refine ⟨_, rfl, _, rfl, _, rfl, _, _, rfl, rfl, _, rfl, _, rfl, hR m rfl _ _ _ ⟨w, t, lot, c2, by show [V.ref w, V.int (((m + 1 : Nat) : Int) - 1), V.ref t, V.str lot] = _; rw [em], w2, by omega, (k2 t _ tw ht1'), hl, fun v3 kd3 c3 H3 d3 p3 o3 k3 w3 e3 => ?_⟩⟩
            refine ⟨big _ (by show (3 : Nat) ≤ 1000; decide), fun p np => ?_⟩
            exact q _ (.fn kd2 kd3) c3 _ (lay w3 np (.cons (.str _) (.cons (d2.kw k3) (.cons d3 .nil)))) (by show max kd2.dep kd3.dep + 1 ≤ m + 1 + 1; omega) (by show (kd2.okv && kd3.okv) = true; rw [o2, o3]; rfl) (k1'.trans (k2.trans (k3.trans (Kw.new np)))) (w3.same (Same.new np)) (by omega)
          · refine ⟨_, rfl, hR m rfl _ _ _ ⟨w, t, lot, c1, by show [V.ref w, V.int (((m + 1 : Nat) : Int) - 1), V.ref t, V.str lot] = _; rw [em], w1', by omega, ht1', hl, fun v2 kd2 c2 H2 d2 p2 o2 k2 w2 e2 => ?_⟩⟩
            refine ⟨_, rfl, _, rfl, _, rfl, _, _, rfl, rfl, _, rfl, _, rfl, hR m rfl _ _ _ ⟨w, t, lot, c2, by show [V.ref w, V.int (((m + 1 : Nat) : Int) - 1), V.ref t, V.str lot] = _; rw [em], w2, by omega, (k2 t _ tw ht1'), hl, fun v3 kd3 c3 H3 d3 p3 o3 k3 w3 e3 => ?_⟩⟩
            refine ⟨big _ (by show (3 : Nat) ≤ 1000; decide), fun p np => ?_⟩
            exact q _ (.fn kd2 kd3) c3 _ (lay w3 np (.cons (.str _) (.cons (d2.kw k3) (.cons d3 .nil)))) (by show max kd2.dep kd3.dep + 1 ≤ m + 1 + 1; omega) (by show (kd2.okv && kd3.okv) = true; rw [o2, o3]; rfl) (k1'.trans (k2.trans (k3.trans (Kw.new np)))) (w3.same (Same.new np)) (by omega)
        · skip
          have k1' := k1.trans (Kw.same sm2)
          have w1' := w1.same sm2
          have ht1' := sm2 t _ ht1
          refine ⟨_, rfl, _, rfl, _, _, rfl, rfl, _, rfl, _, rfl, hR m rfl _ _ _ ⟨w, t, lot, c1, by show [V.ref w, V.int (((m + 1 : Nat) : Int) - 1), V.ref t, V.str lot] = _; rw [em], w1', by omega, ht1', hl, fun v2 kd2 c2 H2 d2 p2 o2 k2 w2 e2 => ?_⟩⟩
          refine ⟨_, rfl, .inl ⟨_, rfl, _, _, rfl, rfl, (by decide : (0 : Int) < 2), rfl, _, rfl, ite2 (fun g6 => ?_) (fun g6 => ?_)⟩⟩
          · skip
            refine ⟨_, rfl, _, rfl, _, rfl, _, _, rfl, rfl, _, rfl, _, rfl, hR m rfl _ _ _ ⟨w, t, lot, c2, by show [V.ref w, V.int (((m + 1 : Nat) : Int) - 1), V.ref t, V.str lot] = _; rw [em], w2, by omega, (k2 t _ tw ht1'), hl, fun v3 kd3 c3 H3 d3 p3 o3 k3 w3 e3 => ?_⟩⟩
            refine ⟨big _ (by show (3 : Nat) ≤ 1000; decide), fun p np => ?_⟩
            exact q _ (.pair kd2 kd3) c3 _ (lay w3 np (.cons (.str _) (.cons (d2.kw k3) (.cons d3 .nil)))) (by show max kd2.dep kd3.dep + 1 ≤ m + 1 + 1; omega) (by show (kd2.okv && kd3.okv) = true; rw [o2, o3]; rfl) (k1'.trans (k2.trans (k3.trans (Kw.new np)))) (w3.same (Same.new np)) (by omega)
          · skip
            refine ⟨_, rfl, _, rfl, _, rfl, _, _, rfl, rfl, _, rfl, _, rfl, hR m rfl _ _ _ ⟨w, t, lot, c2, by show [V.ref w, V.int (((m + 1 : Nat) : Int) - 1), V.ref t, V.str lot] = _; rw [em], w2, by omega, (k2 t _ tw ht1'), hl, fun v3 kd3 c3 H3 d3 p3 o3 k3 w3 e3 => ?_⟩⟩
            refine ⟨big _ (by show (3 : Nat) ≤ 1000; decide), fun p np => ?_⟩
            exact q _ (.eith kd2 kd3) c3 _ (lay w3 np (.cons (.str _) (.cons (d2.kw k3) (.cons d3 .nil)))) (by show max kd2.dep kd3.dep + 1 ≤ m + 1 + 1; omega) (by show (kd2.okv && kd3.okv) = true; rw [o2, o3]; rfl) (k1'.trans (k2.trans (k3.trans (Kw.new np)))) (w3.same (Same.new np)) (by omega)
      · refine iteF ?_
        have k1' := k1
        have w1' := w1
        have ht1' := ht1
        refine ⟨_, rfl, _, rfl, _, _, rfl, rfl, _, rfl, _, rfl, hR m rfl _ _ _ ⟨w, t, lot, c1, by show [V.ref w, V.int (((m + 1 : Nat) : Int) - 1), V.ref t, V.str lot] = _; rw [em], w1', by omega, ht1', hl, fun v2 kd2 c2 H2 d2 p2 o2 k2 w2 e2 => ?_⟩⟩
        refine ⟨_, rfl, .inl ⟨_, rfl, _, _, rfl, rfl, (by decide : (0 : Int) < 2), rfl, _, rfl, ite2 (fun g6 => ?_) (fun g6 => ?_)⟩⟩
        · skip
          refine ⟨_, rfl, _, rfl, _, rfl, _, _, rfl, rfl, _, rfl, _, rfl, hR m rfl _ _ _ ⟨w, t, lot, c2, by show [V.ref w, V.int (((m + 1 : Nat) : Int) - 1), V.ref t, V.str lot] = _; rw [em], w2, by omega, (k2 t _ tw ht1'), hl, fun v3 kd3 c3 H3 d3 p3 o3 k3 w3 e3 => ?_⟩⟩
          refine ⟨big _ (by show (3 : Nat) ≤ 1000; decide), fun p np => ?_⟩
          exact q _ (.pair kd2 kd3) c3 _ (lay w3 np (.cons (.str _) (.cons (d2.kw k3) (.cons d3 .nil)))) (by show max kd2.dep kd3.dep + 1 ≤ m + 1 + 1; omega) (by show (kd2.okv && kd3.okv) = true; rw [o2, o3]; rfl) (k1'.trans (k2.trans (k3.trans (Kw.new np)))) (w3.same (Same.new np)) (by omega)
        · skip
          refine ⟨_, rfl, _, rfl, _, rfl, _, _, rfl, rfl, _, rfl, _, rfl, hR m rfl _ _ _ ⟨w, t, lot, c2, by show [V.ref w, V.int (((m + 1 : Nat) : Int) - 1), V.ref t, V.str lot] = _; rw [em], w2, by omega, (k2 t _ tw ht1'), hl, fun v3 kd3 c3 H3 d3 p3 o3 k3 w3 e3 => ?_⟩⟩
          refine ⟨big _ (by show (3 : Nat) ≤ 1000; decide), fun p np => ?_⟩
          exact q _ (.eith kd2 kd3) c3 _ (lay w3 np (.cons (.str _) (.cons (d2.kw k3) (.cons d3 .nil)))) (by show max kd2.dep kd3.dep + 1 ≤ m + 1 + 1; omega) (by show (kd2.okv && kd3.okv) = true; rw [o2, o3]; rfl) (k1'.trans (k2.trans (k3.trans (Kw.new np)))) (w3.same (Same.new np)) (by omega)
theorem ok_form {f : Addr} {fd : FuncData} (F : FnP K "_law_form" (top 48) f fd) (T : Bl K mg) (hDip : Has P w K mg base "_law_dip" ["_law_well_here", "_law_top"] 1 spDraw) (hPick : Has P w K mg base "_law_pick" ["_law_well_here", "_law_some"] 2 (spPick K))
    (gR : mg "_law_form" = some (.ref f)) (bR : Binds K fd ["_law_well_here", "_law_left", "_law_names_here", "_law_lot"] []) : ∀ n : Nat, FnOk P w K mg base CX0 (2 + n + 1) f fd ["_law_well_here", "_law_left", "_law_names_here", "_law_lot"] (spFm n)
  | 0 => form_body 0 (spR := fun _ _ _ _ => False) F T hDip hPick gR bR ⟨fun _ _ _ _ h => h.elim, fun _ _ _ _ _ _ _ _ _ _ _ _ _ h => h.elim⟩ fun m e => by cases e
  | n + 1 => form_body (n + 1) F T hDip hPick gR bR (ok_form F T hDip hPick gR bR n) fun m e => by cases e; exact fun _ _ _ h => h
end
end N3
namespace N3
open PySem PySem.Spec PyProof.Rows L2 KB
section
variable {K : PySem.W.Frag} {mg : Str → Option Value} {base : Heap} {P : Program} {w : World}
def WC : Nat → Int
  | 0 => 4
  | n + 1 => 5 * WC n + 5
theorem WC_ge : ∀ n, 4 ≤ WC n
  | 0 => Int.le_refl _
  | n + 1 => by
    have := WC_ge n
    unfold WC
    omega
def spWo (n : Nat) : Sp := fun vs H Q _ => ∃ (w : Addr) (kv : V) (k : Kd) (c : Int), vs = [.ref w, kv] ∧ Dt (Nw w) H kv k.d ∧ k.dep ≤ n ∧ k.closed = true ∧ k.noFn = true ∧ Wl H w c ∧ c + WC n < 2 ^ 60 ∧
  ∀ (v : V) (d : PyData) (c' : Int) (H' : Hp), Dt (New H) H' v d → VV 4 k d → Kw w H H' → Wl H' w c' → c' ≤ c + WC n → Q v H'
theorem _root_.KB.Wl.off {H : Hp} {w l : Addr} {c : Int} {o : HO} (h : Wl H w c) (n : l ≠ w) : Wl (upd H l o) w c := by
  obtain ⟨a, b, e, r⟩ := h
  exact ⟨a, b, by rw [upd_ne n.symm]; exact e, r⟩
theorem kd_hd {F : Addr → Prop} {H : Hp} {v : V} {k : Kd} (hc : k.closed = true) (h : Dt F H v k.d) : ∃ a xs, v = .ref a ∧ F a ∧ H a = some (.tup (.str k.word :: xs)) := by
  rw [Kd.d_eq hc] at h
  obtain ⟨a, xs, rfl, fa, ha, r⟩ := h.tupI
  cases r with
  | cons h0 r =>
    have e := h0.strI
    subst e
    exact ⟨a, _, rfl, fa, ha⟩
abbrev nWorth : List Str := ["_law_well_here", "_law_form_here", "_law_word", "_law_lead", "_law_side", "_law_row", "_law_step"]
theorem sc_nWorth : FnScope nWorth ["_law_well_here", "_law_form_here"] (defScope (top 49)) := ⟨rfl, rfl, rfl, by decide +kernel, rfl, by decide +kernel, by decide +kernel⟩
theorem worth_body (n : Nat) {f : Addr} {fd : FuncData} {spR : Sp} (F : FnP K "_law_worth" (top 49) f fd) (T : Bl K mg) (hDip : Has P w K mg base "_law_dip" ["_law_well_here", "_law_top"] 1 spDraw) (hNumber : Has P w K mg base "_law_number" ["_law_well_here"] 3 spNu)
    (gR : mg "_law_worth" = some (.ref f)) (bR : Binds K fd ["_law_well_here", "_law_form_here"] []) (GR : FnOk P w K mg base CX0 (3 + n) f fd ["_law_well_here", "_law_form_here"] spR)
    (hR : ∀ m, n = m + 1 → ∀ vs H Q, spWo m vs H Q E0 → spR vs H Q E0) : FnOk P w K mg base CX0 (3 + n + 1) f fd ["_law_well_here", "_law_form_here"] (spWo n) := by
  obtain ⟨fDip, fdDip, kDip, gDip, bDip, GDip⟩ := hDip
  obtain ⟨fNumber, fdNumber, kNumber, gNumber, bNumber, GNumber⟩ := hNumber
  refine F.ok sc_nWorth (fun vs H Q E h => ?_) (fun cdv A outer s H vs Q E hr h => ?_)
  · obtain ⟨w, kv, k, c, rfl, _⟩ := h
    rfl
  · obtain ⟨w, kv, k, c, rfl, hk, hdp, hcl, hnf, hw, hc, q⟩ := h
    have sc := sc_nWorth
    have hrDip : Room 1 _ := hr.mono (by omega)
    have hrNumber : Room 3 _ := hr.mono (by omega)
    have hrR : Room (3 + n) _ := hr
    have t2 := WC_ge n
    refine ⟨_, PSs.nox (pss_cons (ps_set (i := 2) sc.nd rfl (Or.inl rfl) (pe_ix ix_tup (pv 1) pe_int (fun _ _ => rfl))) (pss_cons (ps_if (pt_cmpR op_in_seq (pv 2) (pe_tup (pa_cons pe_str (pa_cons pe_str pa_nil))) (by rfl)) (pss_one (ps_ret (pe_ifExp (pt_cmpR op_eq (pv 2) pe_str (nomark _)) (pe_tup pa_nil) (pe_call GNumber hrNumber rfl gNumber kNumber bNumber .nil pass0 (pa_cons (pv 0) pa_nil))))) pss_nil) (pss_cons (ps_if (pt_cmpR op_eq (pv 2) pe_str (nomark _)) (pss_cons (ps_set (i := 3) sc.nd rfl (Or.inl rfl) (pe_call GR hrR rfl gR F.kp bR .nil pass0 (pa_cons (pv 0) (pa_cons (pe_ix ix_tup (pv 1) pe_int (fun _ _ => rfl)) pa_nil)))) (pss_one (ps_ret (pe_tup (pa_cons pe_str (pa_cons (pv 3) (pa_cons (pe_call GR hrR rfl gR F.kp bR .nil pass0 (pa_cons (pv 0) (pa_cons (pe_ix ix_tup (pv 1) pe_int (fun _ _ => rfl)) pa_nil))) pa_nil))))))) pss_nil) (pss_cons (ps_if (pt_cmpR op_eq (pv 2) pe_str (nomark _)) (pss_cons (ps_set (i := 4) sc.nd rfl (Or.inl rfl) (pe_call GDip hrDip rfl gDip kDip bDip .nil pass0 (pa_cons (pv 0) (pa_cons pe_int pa_nil)))) (pss_one (ps_ret (pe_tup (pa_cons (pe_ix ix_tup (pe_tup (pa_cons pe_str (pa_cons pe_str pa_nil))) (pv 4) (fun _ _ => rfl)) (pa_cons (pe_call GR hrR rfl gR F.kp bR .nil pass0 (pa_cons (pv 0) (pa_cons (pe_ix ix_tup (pv 1) (pe_op op_add pe_int (pv 4)) (fun _ _ => rfl)) pa_nil))) pa_nil)))))) pss_nil) (pss_cons (ps_set (i := 5) sc.nd rfl (Or.inl rfl) (pe_lst pa_nil)) (pss_cons (ps_for PassesOwn.never rfl (pi_range1 rfl T.range (pa_cons (pe_call GDip hrDip rfl gDip kDip bDip .nil pass0 (pa_cons (pv 0) (pa_cons pe_int pa_nil))) pa_nil)) (pg_name (i := 6) sc.nd rfl (Or.inl rfl)) (pss_one (ps_expr (pe_bm PySem.F.plainAttrs_list PySem.F.slot_list_append PySem.F.type_list_append mt_append (pv 5) (pa_cons (pe_call GR hrR rfl gR F.kp bR .nil pass0 (pa_cons (pv 0) (pa_cons (pe_ix ix_tup (pv 1) pe_int (fun _ _ => rfl)) pa_nil))) pa_nil))))) (pss_one (ps_ret (pe_callTy call_tuple_of (by rfl) T.tuple (by decide +kernel) (pa_cons (pv 5) pa_nil)))))))))), ?_⟩
    have big : ∀ k : Nat, k ≤ 1000 → k ≤ sizeLine := fun k h => Nat.le_of_lt (small1000 h)
    have no : ∀ {x y : Str}, x ≠ y → decide (V.str x = V.str y) = false := fun h => decide_eq_false fun z => h (V.str.inj z)
    obtain ⟨a, xs, rfl, fa, ha⟩ := kd_hd hcl hk
    refine ⟨_, rfl, a, _, 0, _, rfl, rfl, SqT.of ha, atI_nat (j := 0) rfl, ?_⟩
    refine ⟨_, rfl, big _ (by show (2 : Nat) ≤ 1000; decide), fun u nu => ?_⟩
    refine ⟨u, _, rfl, .inr (SqT.of upd_same), rfl, rfl, _, rfl, ?_⟩
    have sm0 := @Same.new u _ (.tup [.str "unit", .str "num"]) nu
    replace q : ∀ (v : V) (d : PyData) (c' : Int) (H' : Hp), Dt (New (upd H u (.tup [.str "unit", .str "num"]))) H' v d → VV 4 k d → Kw w (upd H u (.tup [.str "unit", .str "num"])) H' → Wl H' w c' → c' ≤ c + WC n → Q v H' :=
      fun v d c' H' e1 e2 e3 e4 e5 => q v d c' H' (e1.move fun a o f e => ⟨sm0.free f, e⟩) e2 ((Kw.same sm0).trans e3) e4 e5
    replace hk := hk.keep sm0
    replace hw := hw.same sm0
    generalize upd H u (.tup [.str "unit", .str "num"]) = H at q hk hw ⊢
    obtain ⟨a', ea, fa, ka⟩ := kd_at hk
    cases ea
    cases k with
    | var x => cases hcl
    | fn x y => cases hnf
    | unit =>
      refine ifT rfl ⟨_, rfl, rfl, _, rfl, ifT (decide_eq_true rfl) ⟨Nat.zero_le _, fun p np => ?_⟩⟩
      exact q _ (.tuple []) c _ (.tup np upd_same .nil) .unit (Kw.new np) (hw.same (Same.new np)) (by omega)
    | num =>
      refine ifT rfl ⟨_, rfl, rfl, _, rfl, ifF (no (by decide)) ?_⟩
      refine ⟨_, rfl, w, c, rfl, hw, by omega, fun i c1 H1 b1 k1 w1 e1 => ?_⟩
      exact q _ _ c1 H1 (.int i) (.num i (Nat.le_trans b1 (Nat.le_add_right _ _))) k1 w1 (by omega)
    | pair x y =>
      obtain ⟨vx, vy, h, dx, dy⟩ := ka
      obtain ⟨m, rfl⟩ : ∃ m, n = m + 1 := ⟨n - 1, by have : max x.dep y.dep + 1 ≤ n := hdp; omega⟩
      have hdp' : max x.dep y.dep + 1 ≤ m + 1 := hdp
      have tt : WC (m + 1) = 5 * WC m + 5 := rfl
      have tm := WC_ge m
      obtain ⟨clx, cly⟩ := Bool.and_eq_true_iff.mp (show (x.closed && y.closed) = true from hcl)
      obtain ⟨nfx, nfy⟩ := Bool.and_eq_true_iff.mp (show (x.noFn && y.noFn) = true from hnf)
      refine ifF rfl ⟨_, rfl, rfl, _, rfl, ifT (decide_eq_true rfl) ?_⟩
      refine ⟨_, rfl, _, rfl, a, _, 1, _, rfl, rfl, SqT.of h, rfl, ?_⟩
      refine hR m rfl _ _ _ ⟨w, vx, x, c, rfl, dx, by omega, clx, nfx, hw, by omega, fun v1 d1 c1 H1 e1 i1 k1 w1 l1 => ?_⟩
      refine ⟨_, rfl, _, rfl, _, rfl, a, _, 2, _, rfl, rfl, SqT.of (k1 a _ fa h), rfl, ?_⟩
      refine hR m rfl _ _ _ ⟨w, vy, y, c1, rfl, dy.kw k1, by omega, cly, nfy, w1, by omega, fun v2 d2 c2 H2 e2 i2 k2 w2 l2' => ?_⟩
      refine ⟨big _ (by show (3 : Nat) ≤ 1000; decide), fun p np => ?_⟩
      have e1' := (k2.data hw.some e1).grow (Same.new (o := .tup [V.str "pair", v1, v2]) np)
      have e2' := (e2.move fun a o f e => ⟨k1.free w1.some f, e⟩ : Dt (New H) H2 v2 d2).grow (Same.new (o := .tup [V.str "pair", v1, v2]) np)
      exact q _ (.tuple [.str "pair", d1, d2]) c2 _ (.tup ((k1.trans k2).free w2.some np) upd_same (.cons (.str _) (.cons e1' (.cons e2' .nil)))) (.pair i1 i2) (k1.trans (k2.trans (Kw.new np))) (w2.same (Same.new np)) (by omega)
    | eith x y =>
      obtain ⟨vx, vy, h, dx, dy⟩ := ka
      obtain ⟨m, rfl⟩ : ∃ m, n = m + 1 := ⟨n - 1, by have : max x.dep y.dep + 1 ≤ n := hdp; omega⟩
      have hdp' : max x.dep y.dep + 1 ≤ m + 1 := hdp
      have tt : WC (m + 1) = 5 * WC m + 5 := rfl
      have tm := WC_ge m
      obtain ⟨clx, cly⟩ := Bool.and_eq_true_iff.mp (show (x.closed && y.closed) = true from hcl)
      obtain ⟨nfx, nfy⟩ := Bool.and_eq_true_iff.mp (show (x.noFn && y.noFn) = true from hnf)
      refine ifF rfl ⟨_, rfl, rfl, _, rfl, ifF (no (x := "either") (by decide)) ⟨_, rfl, rfl, _, rfl, ifT (decide_eq_true rfl) ?_⟩⟩
      refine ⟨_, rfl, w, 2, c, rfl, hw, by omega, by decide, by decide, fun r c1 H1 r0 r1 k1 w1 l1 => ?_⟩
      have h1 := k1 a _ fa h
      refine ⟨big _ (by show (2 : Nat) ≤ 1000; decide), fun t nt => ?_⟩
      have sm := @Same.new t _ (.tup [.str "left", .str "right"]) nt
      have k2 := k1.trans (Kw.same sm)
      have fin : ∀ (wd : Str) (kd : Kd) (u : V), kd.dep ≤ m → kd.closed = true → kd.noFn = true → Dt (Nw w) H u kd.d →
          ∀ Q' : VK, (∀ v2 d2 c2 H2, Dt (New H) H2 v2 d2 → VV 4 kd d2 → Kw w H H2 → Wl H2 w c2 → c2 ≤ c + 1 + WC m → Q' v2 H2) → spR [.ref w, u] (upd H1 t (.tup [.str "left", .str "right"])) Q' E0 := by
        intro wd kd u hd hc1 hn1 hu Q' hq
        refine hR m rfl _ _ _ ⟨w, u, kd, c1, rfl, hu.kw k2, hd, hc1, hn1, w1.same sm, by omega, fun v2 d2 c2 H2 e2 i2 k3 w2 l2' => ?_⟩
        exact hq v2 d2 c2 H2 (e2.move fun a o f e => ⟨k2.free (w1.same sm).some f, e⟩) i2 (k2.trans k3) w2 (by omega)
      have out : ∀ (wd : Str) (kd : Kd), (∀ d, VV 4 kd d → VV 4 (.eith x y) (.tuple [.str wd, d])) → ∀ (v2 : V) (d2 : PyData) (c2 : Int) (H2 : Hp), Dt (New H) H2 v2 d2 → VV 4 kd d2 → Kw w H H2 → Wl H2 w c2 → c2 ≤ c + 1 + WC m →
          ∀ p, H2 p = none → Q (.ref p) (upd H2 p (.tup [.str wd, v2])) := by
        intro wd kd hv v2 d2 c2 H2 e2 i2 k3 w2 l2' p np
        exact q _ (.tuple [.str wd, d2]) c2 _ (.tup (k3.free w2.some np) upd_same (.cons (.str _) (.cons (e2.grow (Same.new np)) .nil))) (hv _ i2) (k3.trans (Kw.new np)) (w2.same (Same.new np)) (by omega)
      have vL : ∀ d, VV 4 x d → VV 4 (.eith x y) (.tuple [.str "left", d]) := fun d hd => .left hd
      have vR : ∀ d, VV 4 y d → VV 4 (.eith x y) (.tuple [.str "right", d]) := fun d hd => .right hd
      have h2 := sm a _ h1
      obtain rfl | rfl : r = 0 ∨ r = 1 := by omega
      · refine ⟨_, rfl, t, _, 0, _, rfl, rfl, SqT.of upd_same, rfl, _, rfl, _, rfl, _, rfl, _, _, rfl, rfl, a, _, 1, _, rfl, rfl, SqT.of h2, rfl, ?_⟩
        exact fin "left" x vx (by omega) clx nfx dx _ fun v2 d2 c2 H2 e2 i2 k3 w2 l2' => ⟨big _ (by show (2 : Nat) ≤ 1000; decide), out "left" x vL v2 d2 c2 H2 e2 i2 k3 w2 l2'⟩
      · refine ⟨_, rfl, t, _, 1, _, rfl, rfl, SqT.of upd_same, rfl, _, rfl, _, rfl, _, rfl, _, _, rfl, rfl, a, _, 2, _, rfl, rfl, SqT.of h2, rfl, ?_⟩
        exact fin "right" y vy (by omega) cly nfy dy _ fun v2 d2 c2 H2 e2 i2 k3 w2 l2' => ⟨big _ (by show (2 : Nat) ≤ 1000; decide), out "right" y vR v2 d2 c2 H2 e2 i2 k3 w2 l2'⟩
    | lst x =>
      obtain ⟨vx, h, dx⟩ := ka
      obtain ⟨m, rfl⟩ : ∃ m, n = m + 1 := ⟨n - 1, by have : x.dep + 1 ≤ n := hdp; omega⟩
      have hdp' : x.dep + 1 ≤ m + 1 := hdp
      have tt : WC (m + 1) = 5 * WC m + 5 := rfl
      have tm := WC_ge m
      refine ifF rfl ⟨_, rfl, rfl, _, rfl, ifF (no (x := "list") (by decide)) ⟨_, rfl, rfl, _, rfl, ifF (no (x := "list") (by decide)) ?_⟩⟩
      refine ⟨Nat.zero_le _, fun l nl => ?_⟩
      have sm := @Same.new l _ (.lst []) nl
      refine ⟨_, rfl, w, 4, c, rfl, hw.same sm, by omega, by decide, by decide, fun r c1 H1 r0 r1 k1 w1 l1 => ?_⟩
      have lw : l ≠ w := (hw.ne nl).symm
      have k01 := (Kw.same sm).trans k1
      refine ⟨r, rfl, by omega, by omega, for_range (lo := 0) (n := r.toNat) (fun i σ H3 => ∃ (vs : List V) (ds : List PyData) (t : Option V) (c3 : Int), σ = [some (.ref w), some (.ref a), some (.str "list"), none, none, some (.ref l), t] ∧
        Kw w H H3 ∧ H3 l = some (.lst vs) ∧ DtA (fun b => H b = none ∧ b ≠ l) H3 vs ds ∧ (∀ d ∈ ds, VV 4 x d) ∧ vs.length = i ∧ Wl H3 w c3 ∧ c3 ≤ c + 1 + i * WC m)
        ⟨[], [], none, c1, rfl, k01, k1 l _ lw upd_same, .nil, fun d hd => (by cases hd), rfl, w1, (by omega)⟩ ?_ ?_⟩
      · rintro i σ H3 hi ⟨vs, ds, t, c3, rfl, k3, h3, dt3, g3, len, w3, e3⟩
        have lim : c3 + WC m < 2 ^ 60 := by
          have : (i : Int) * WC m ≤ 4 * WC m := Int.mul_le_mul_of_nonneg_right (by omega) (by omega)
          omega
        refine ⟨_, rfl, .inl ⟨rfl, _, SqL.of h3⟩, _, rfl, _, rfl, a, _, 1, _, rfl, rfl, SqT.of (k3 a _ fa h), rfl, ?_⟩
        refine hR m rfl _ _ _ ⟨w, vx, x, c3, rfl, dx.kw k3, by omega, hcl, hnf, w3, lim, fun v d c4 H4 dv iv k4 w4 e4 => ?_⟩
        have h4 := k4 l _ lw h3
        have l0 : H l = none := nl
        refine ⟨l, vs, v, rfl, rfl, h4, small1000 (by omega), ?_⟩
        have k5 : ∀ a o, (H a = none ∧ a ≠ l) → H4 a = some o → (H a = none ∧ a ≠ l) ∧ upd H4 l (.lst (vs ++ [v])) a = some o := fun a o f e => ⟨f, by rw [upd_ne f.2]; exact e⟩
        have hw0 := hw.some
        have old : DtA (fun a => H a = none ∧ a ≠ l) H4 vs ds := dt3.move fun a o f e => ⟨f, k4 a o (fun z => hw0 (by rw [← z]; exact f.1)) e⟩
        have nw : Dt (fun a => H a = none ∧ a ≠ l) H4 v d := dv.move fun a o f e => ⟨⟨k3.free w3.some f, fun z => nomatch (show none = some (HO.lst vs) from (show H3 a = none from f).symm.trans (by rw [z]; exact h3))⟩, e⟩
        refine ⟨vs ++ [v], ds ++ [d], _, c4, rfl, ?_, upd_same, (old.append (.cons nw .nil)).move k5, ?_, by rw [List.length_append, len]; rfl, ?_, ?_⟩
        · exact fun a o n1 e => by
            have := k4 a o n1 (k3 a o n1 e)
            rw [upd_ne (ne_of_none e l0)]
            exact this
        · intro z hz
          rcases List.mem_append.mp hz with h | h
          · exact g3 z h
          · rw [List.mem_singleton.mp h]
            exact iv
        · exact w4.off lw
        · have : ((i + 1 : Nat) : Int) * WC m = i * WC m + WC m := by
            rw [show ((i + 1 : Nat) : Int) = (i : Int) + 1 by omega, Int.add_mul, Int.one_mul]
          omega
      · rintro σ H3 ⟨vs, ds, t, c3, rfl, k3, h3, dt3, g3, len, w3, e3⟩
        have cnt : vs.length ≤ 4 := by omega
        refine ⟨_, rfl, l, vs, rfl, .inl ⟨SqL.of h3, fun p hp => ?_⟩⟩
        have hp0 : H p = none := k3.free w3.some hp
        have dl : ds.length ≤ 4 := by rw [← dt3.length]; exact cnt
        refine q (.ref p) (.tuple ds) c3 _ (.tup hp0 upd_same ((dt3.move fun a o f e => ⟨f.1, e⟩).grow (Same.new hp))) (.lst dl g3) (k3.trans (Kw.new hp)) (w3.same (Same.new hp)) ?_
        · have : (r.toNat : Int) * WC m ≤ 4 * WC m := Int.mul_le_mul_of_nonneg_right (by omega) (by omega)
          omega
theorem ok_worth {f : Addr} {fd : FuncData} (F : FnP K "_law_worth" (top 49) f fd) (T : Bl K mg) (hDip : Has P w K mg base "_law_dip" ["_law_well_here", "_law_top"] 1 spDraw) (hNumber : Has P w K mg base "_law_number" ["_law_well_here"] 3 spNu)
    (gR : mg "_law_worth" = some (.ref f)) (bR : Binds K fd ["_law_well_here", "_law_form_here"] []) : ∀ n : Nat, FnOk P w K mg base CX0 (3 + n + 1) f fd ["_law_well_here", "_law_form_here"] (spWo n)
  | 0 => worth_body 0 (spR := fun _ _ _ _ => False) F T hDip hNumber gR bR ⟨fun _ _ _ _ h => h.elim, fun _ _ _ _ _ _ _ _ _ _ _ _ _ h => h.elim⟩ fun m e => by cases e
  | n + 1 => worth_body (n + 1) F T hDip hNumber gR bR (ok_worth F T hDip hNumber gR bR n) fun m e => by cases e; exact fun _ _ _ h => h
end
end N3
namespace N3
open PySem PySem.Spec PyProof.Rows L2 KB
section
variable {K : PySem.W.Frag} {mg : Str → Option Value} {base : Heap} {P : Program} {w : World}
mutual
theorem ky_noL : ∀ (d : PyData), isKy d = true → noL d = true
  | .int _, _ => by simp only [noL]
  | .tuple ds, h => by rw [isKy] at h; rw [noL]; exact ky_noLA ds h
  | .none, h => by simp only [isKy] at h; cases h
  | .bool _, h => by simp only [isKy] at h; cases h
  | .str _, h => by simp only [isKy] at h; cases h
  | .list _, h => by simp only [isKy] at h; cases h
  | .dict _, h => by simp only [isKy] at h; cases h
theorem ky_noLA : ∀ (ds : List PyData), isKyA ds = true → noLA ds = true
  | [], _ => by rw [noLA]
  | d :: ds, h => by
    rw [isKyA, Bool.and_eq_true] at h
    rw [noLA, ky_noL d h.1, ky_noLA ds h.2]
    rfl
end
theorem take_snoc {α : Type} {l : List α} {i : Nat} {x : α} (h : l[i]? = some x) : l.take (i + 1) = l.take i ++ [x] := by rw [List.take_add_one, h]; rfl
def spKy (n : Nat) : Sp := fun vs H Q _ => ∃ (F : Addr → Prop) (kv wv : V) (k : Kd) (d : PyData) (N : Nat), vs = [kv, wv] ∧ (∀ p, H p = none → F p) ∧ Dt F H kv k.d ∧ Dt F H wv d ∧ VV N k d ∧ N ≤ 10000000 ∧ k.dep ≤ n ∧ k.closed = true ∧ k.noFn = true ∧
  ∀ (v : V) (H' : Hp), Same H H' → Dt F H' v (ky k d) → Q v H'
abbrev nKey : List Str := ["_law_form_here", "_law_worth_here", "_law_word", "_law_some"]
theorem sc_nKey : FnScope nKey ["_law_form_here", "_law_worth_here"] (defScope (top 50)) := ⟨rfl, rfl, rfl, by decide +kernel, rfl, by decide +kernel, by decide +kernel⟩
theorem key_body (n : Nat) {f : Addr} {fd : FuncData} {spR : Sp} (F : FnP K "_law_key" (top 50) f fd) (T : Bl K mg)
    (gR : mg "_law_key" = some (.ref f)) (bR : Binds K fd ["_law_form_here", "_law_worth_here"] []) (GR : FnOk P w K mg base CX0 n f fd ["_law_form_here", "_law_worth_here"] spR)
    (hR : ∀ m, n = m + 1 → ∀ vs H Q, spKy m vs H Q E0 → spR vs H Q E0) : FnOk P w K mg base CX0 (n + 1) f fd ["_law_form_here", "_law_worth_here"] (spKy n) := by
  refine F.ok sc_nKey (fun vs H Q E h => ?_) (fun cdv A outer s H vs Q E hr h => ?_)
  · obtain ⟨F, kv, wv, k, d, N, rfl, _⟩ := h
    rfl
  · obtain ⟨Fa, kv, wv, k, d, N, rfl, hF, hk, hd, hv, hN, hdp, hcl, hnf, q⟩ := h
    have sc := sc_nKey
    have hrR : Room n _ := hr
    refine ⟨_, PSs.nox (pss_cons (ps_set (i := 2) sc.nd rfl (Or.inl rfl) (pe_ix ix_tup (pv 0) pe_int (fun _ _ => rfl))) (pss_cons (ps_if (pt_cmpR op_in_seq (pv 2) (pe_tup (pa_cons pe_str (pa_cons pe_str pa_nil))) (by rfl)) (pss_one (ps_ret (pv 1))) pss_nil) (pss_cons (ps_if (pt_cmpR op_eq (pv 2) pe_str (nomark _)) (pss_one (ps_ret (pe_tup (pa_cons (pe_call GR hrR rfl gR F.kp bR .nil pass0 (pa_cons (pe_ix ix_tup (pv 0) pe_int (fun _ _ => rfl)) (pa_cons (pe_ix ix_tup (pv 1) pe_int (fun _ _ => rfl)) pa_nil))) (pa_cons (pe_call GR hrR rfl gR F.kp bR .nil pass0 (pa_cons (pe_ix ix_tup (pv 0) pe_int (fun _ _ => rfl)) (pa_cons (pe_ix ix_tup (pv 1) pe_int (fun _ _ => rfl)) pa_nil))) pa_nil))))) pss_nil) (pss_cons (ps_if (pt_cmpR op_eq (pv 2) pe_str (nomark _)) (pss_one (ps_ret (pe_ifExp (pt_cmpR op_eq (pe_ix ix_tup (pv 1) pe_int (fun _ _ => rfl)) pe_str (nomark _)) (pe_tup (pa_cons pe_int (pa_cons (pe_call GR hrR rfl gR F.kp bR .nil pass0 (pa_cons (pe_ix ix_tup (pv 0) pe_int (fun _ _ => rfl)) (pa_cons (pe_ix ix_tup (pv 1) pe_int (fun _ _ => rfl)) pa_nil))) pa_nil))) (pe_tup (pa_cons pe_int (pa_cons (pe_call GR hrR rfl gR F.kp bR .nil pass0 (pa_cons (pe_ix ix_tup (pv 0) pe_int (fun _ _ => rfl)) (pa_cons (pe_ix ix_tup (pv 1) pe_int (fun _ _ => rfl)) pa_nil))) pa_nil)))))) pss_nil) (pss_one (ps_ret (pe_callTy call_tuple_of (by rfl) T.tuple (by decide +kernel) (pa_cons (pe_lc (own := [("_law_some", 3)]) (g := gName 3) (tt := tYes) (by rfl) sc.nd (pi_tup (pv 1)) (blkOk_by (own := [("_law_some", 3)]) (N := nKey) (sc := (defScope (top 50))) (by decide +kernel)) (fun _ _ _ _ _ => (pg_name (i := 3) sc.nd rfl (Or.inl rfl))) (fun _ _ _ _ _ => pts_nil) (fun _ _ _ _ _ => (pe_call GR hrR rfl gR F.kp bR .nil pass0 (pa_cons (pe_ix (ixT (K := K) rfl) (pv 0) pe_int (fun _ _ => rfl)) (pa_cons (pv 3) pa_nil))))) pa_nil)))))))), ?_⟩
    have big : ∀ k : Nat, k ≤ 1000 → k ≤ sizeLine := fun k h => Nat.le_of_lt (small1000 h)
    have no : ∀ {x y : Str}, x ≠ y → decide (V.str x = V.str y) = false := fun h => decide_eq_false fun z => h (V.str.inj z)
    obtain ⟨a, xs, rfl, fa, ha⟩ := kd_hd hcl hk
    refine ⟨_, rfl, a, _, 0, _, rfl, rfl, SqT.of ha, atI_nat (j := 0) rfl, ?_⟩
    refine ⟨_, rfl, big _ (by show (2 : Nat) ≤ 1000; decide), fun u nu => ?_⟩
    refine ⟨u, _, rfl, .inr (SqT.of upd_same), rfl, rfl, _, rfl, ?_⟩
    have sm0 := @Same.new u _ (.tup [.str "unit", .str "num"]) nu
    replace q : ∀ (v : V) (H' : Hp), Same (upd H u (.tup [.str "unit", .str "num"])) H' → Dt Fa H' v (ky k d) → Q v H' := fun v H' e1 e2 => q v H' (sm0.trans e1) e2
    replace hk := hk.keep sm0
    replace hd := hd.keep sm0
    replace hF : ∀ p, upd H u (.tup [.str "unit", .str "num"]) p = none → Fa p := fun p np => hF p (sm0.free np)
    generalize upd H u (.tup [.str "unit", .str "num"]) = H at q hk hd hF ⊢
    obtain ⟨a', ea, fa, ka⟩ := kd_at hk
    cases ea
    have lay : ∀ {H2 : Hp} {p : Addr} {ys : List V} {ds : List PyData}, Same H H2 → H2 p = none → DtA Fa H2 ys ds → Dt Fa (upd H2 p (.tup ys)) (.ref p) (.tuple ds) := fun s2 np dd =>
      .tup (hF _ (s2.free np)) upd_same (dd.keep (Same.new np))
    cases hv with
    | unit => exact ifT rfl ⟨_, rfl, q _ H (Same.refl H) hd⟩
    | num i hi => exact ifT rfl ⟨_, rfl, q _ H (Same.refl H) hd⟩
    | @pair x y d1 d2 h1 h2 =>
      obtain ⟨vx, vy, h, dx, dy⟩ := ka
      obtain ⟨m, rfl⟩ : ∃ m, n = m + 1 := ⟨n - 1, by have : max x.dep y.dep + 1 ≤ n := hdp; omega⟩
      have hdp' : max x.dep y.dep + 1 ≤ m + 1 := hdp
      obtain ⟨clx, cly⟩ := Bool.and_eq_true_iff.mp (show (x.closed && y.closed) = true from hcl)
      obtain ⟨nfx, nfy⟩ := Bool.and_eq_true_iff.mp (show (x.noFn && y.noFn) = true from hnf)
      obtain ⟨b, ys, rfl, fb, hb, rb⟩ := hd.tupI
      obtain ⟨v0, v1, v2, rfl, _, r1, r2⟩ := rb.three
      refine ifF rfl ⟨_, rfl, rfl, _, rfl, ifT (decide_eq_true rfl) ?_⟩
      refine ⟨_, rfl, a, _, 1, _, rfl, rfl, SqT.of h, rfl, _, rfl, b, _, 1, _, rfl, rfl, SqT.of hb, rfl, ?_⟩
      refine hR m rfl _ _ _ ⟨Fa, vx, v1, x, d1, N, rfl, hF, dx, r1, h1, hN, by omega, clx, nfx, fun z1 H1 s1 t1 => ?_⟩
      refine ⟨_, rfl, a, _, 2, _, rfl, rfl, SqT.of (s1 a _ h), rfl, _, rfl, b, _, 2, _, rfl, rfl, SqT.of (s1 b _ hb), rfl, ?_⟩
      refine hR m rfl _ _ _ ⟨Fa, vy, v2, y, d2, N, rfl, fun p np => hF p (s1.free np), dy.keep s1, r2.keep s1, h2, hN, by omega, cly, nfy, fun z2 H2 s2 t2 => ?_⟩
      refine ⟨big _ (by show (2 : Nat) ≤ 1000; decide), fun p np => ?_⟩
      exact q _ _ ((s1.trans s2).trans (Same.new np)) (lay (s1.trans s2) np (.cons (t1.keep s2) (.cons t2 .nil)))
    | @left x y d1 h1 =>
      obtain ⟨vx, vy, h, dx, dy⟩ := ka
      obtain ⟨m, rfl⟩ : ∃ m, n = m + 1 := ⟨n - 1, by have : max x.dep y.dep + 1 ≤ n := hdp; omega⟩
      have hdp' : max x.dep y.dep + 1 ≤ m + 1 := hdp
      obtain ⟨clx, cly⟩ := Bool.and_eq_true_iff.mp (show (x.closed && y.closed) = true from hcl)
      obtain ⟨nfx, nfy⟩ := Bool.and_eq_true_iff.mp (show (x.noFn && y.noFn) = true from hnf)
      obtain ⟨b, ys, rfl, fb, hb, rb⟩ := hd.tupI
      obtain ⟨v0, v1, rfl, r0, r1⟩ := rb.two
      have e0 := r0.strI
      subst e0
      refine ifF rfl ⟨_, rfl, rfl, _, rfl, ifF (no (x := "either") (by decide)) ⟨_, rfl, rfl, _, rfl, ifT (decide_eq_true rfl) ?_⟩⟩
      refine ⟨_, rfl, b, _, 0, _, rfl, rfl, SqT.of hb, rfl, rfl, _, rfl, ifT (decide_eq_true rfl) ?_⟩
      refine ⟨_, rfl, a, _, 1, _, rfl, rfl, SqT.of h, rfl, _, rfl, b, _, 1, _, rfl, rfl, SqT.of hb, rfl, ?_⟩
      refine hR m rfl _ _ _ ⟨Fa, vx, v1, x, d1, N, rfl, hF, dx, r1, h1, hN, by omega, clx, nfx, fun z1 H1 s1 t1 => ?_⟩
      refine ⟨big _ (by show (2 : Nat) ≤ 1000; decide), fun p np => ?_⟩
      refine q _ _ (s1.trans (Same.new np)) ?_
      simp only [ky, if_true]
      exact lay s1 np (.cons (.int _) (.cons t1 .nil))
    | @right x y d1 h1 =>
      obtain ⟨vx, vy, h, dx, dy⟩ := ka
      obtain ⟨m, rfl⟩ : ∃ m, n = m + 1 := ⟨n - 1, by have : max x.dep y.dep + 1 ≤ n := hdp; omega⟩
      have hdp' : max x.dep y.dep + 1 ≤ m + 1 := hdp
      obtain ⟨clx, cly⟩ := Bool.and_eq_true_iff.mp (show (x.closed && y.closed) = true from hcl)
      obtain ⟨nfx, nfy⟩ := Bool.and_eq_true_iff.mp (show (x.noFn && y.noFn) = true from hnf)
      obtain ⟨b, ys, rfl, fb, hb, rb⟩ := hd.tupI
      obtain ⟨v0, v1, rfl, r0, r1⟩ := rb.two
      have e0 := r0.strI
      subst e0
      refine ifF rfl ⟨_, rfl, rfl, _, rfl, ifF (no (x := "either") (by decide)) ⟨_, rfl, rfl, _, rfl, ifT (decide_eq_true rfl) ?_⟩⟩
      refine ⟨_, rfl, b, _, 0, _, rfl, rfl, SqT.of hb, rfl, rfl, _, rfl, ifF (no (by decide)) ?_⟩
      refine ⟨_, rfl, a, _, 2, _, rfl, rfl, SqT.of h, rfl, _, rfl, b, _, 1, _, rfl, rfl, SqT.of hb, rfl, ?_⟩
      refine hR m rfl _ _ _ ⟨Fa, vy, v1, y, d1, N, rfl, hF, dy, r1, h1, hN, by omega, cly, nfy, fun z1 H1 s1 t1 => ?_⟩
      refine ⟨big _ (by show (2 : Nat) ≤ 1000; decide), fun p np => ?_⟩
      refine q _ _ (s1.trans (Same.new np)) ?_
      have nn : ¬ (("right" : Str) = "left") := by decide
      simp only [ky, if_neg nn]
      exact lay s1 np (.cons (.int _) (.cons t1 .nil))
    | @lst x ds hl h1 =>
      obtain ⟨vx, h, dx⟩ := ka
      obtain ⟨m, rfl⟩ : ∃ m, n = m + 1 := ⟨n - 1, by have : x.dep + 1 ≤ n := hdp; omega⟩
      have hdp' : x.dep + 1 ≤ m + 1 := hdp
      obtain ⟨b, ys, rfl, fb, hb, rb⟩ := hd.tupI
      have ll := rb.length
      refine ifF rfl ⟨_, rfl, rfl, _, rfl, ifF (no (x := "list") (by decide)) ⟨_, rfl, rfl, _, rfl, ifF (no (x := "list") (by decide)) ?_⟩⟩
      refine ⟨_, rfl, b, rfl, ⟨_, SqT.of hb⟩, fun D nD => lc_tup (K := K) (a := b) (xs := ys) (fun i H2 => Same H H2 ∧ ∃ vs, H2 D = some (.lst vs) ∧ DtA (fun c => Fa c ∧ c ≠ D) H2 vs ((ds.take i).map (ky x)))
        ⟨Same.new nD, [], upd_same, .nil⟩ (fun i H2 _ hP => SqT.of (hP.1 b _ hb)) ?_ ?_⟩
      · rintro i e H2 hi ⟨sm, vs, hD, dt⟩
        obtain ⟨de, hde, dte⟩ := rb.get hi
        have il : i < ys.length := (List.getElem?_eq_some_iff.mp hi).1
        have lv := dt.length
        rw [List.length_map, List.length_take] at lv
        refine ⟨rfl, ?_⟩
        refine iteT (B := Same H H2 ∧ ∃ vs, H2 D = some (.lst vs) ∧ DtA (fun c => Fa c ∧ c ≠ D) H2 vs ((ds.take (i + 1)).map (ky x))) ?_
        refine ⟨_, rfl, a, _, 1, _, rfl, rfl, SqT.of (sm a _ h), rfl, _, rfl, ?_⟩
        have vde := h1 de (List.mem_of_getElem? hde)
        refine hR m rfl _ _ _ ⟨Fa, vx, e, x, de, N, rfl, fun p np => hF p (sm.free np), dx.keep sm, dte.keep sm, vde, hN, by omega, hcl, hnf, fun z1 H3 s3 t3 => ?_⟩
        refine ⟨_, s3 _ _ hD, Nat.lt_of_le_of_lt (by omega : _ ≤ 10000000) (by decide), fun b o e2 => ?_, vs ++ [z1], upd_same, ?_⟩
        · rw [upd_ne (ne_of_none e2 nD)]
          exact s3 b o (sm b o e2)
        · rw [take_snoc hde, List.map_append]
          have t3' := nl_off (s3 _ _ hD) (ky_noL _ (ky_isK vde)) t3
          exact ((dt.keep s3).append (.cons t3' .nil)).move fun c o f e => ⟨f, by rw [upd_ne f.2]; exact e⟩
      · rintro H2 ⟨sm, vs, hD, dt⟩
        rw [ll, List.take_length] at dt
        refine ⟨D, vs, rfl, .inl ⟨SqL.of hD, fun p hp => ?_⟩⟩
        exact q _ _ (sm.trans (Same.new hp)) (.tup (hF p (sm.free hp)) upd_same ((dt.move fun c o f e => ⟨f.1, e⟩).keep (Same.new hp)))
theorem ok_key {f : Addr} {fd : FuncData} (F : FnP K "_law_key" (top 50) f fd) (T : Bl K mg)
    (gR : mg "_law_key" = some (.ref f)) (bR : Binds K fd ["_law_form_here", "_law_worth_here"] []) : ∀ n : Nat, FnOk P w K mg base CX0 (n + 1) f fd ["_law_form_here", "_law_worth_here"] (spKy n)
  | 0 => key_body 0 (spR := fun _ _ _ _ => False) F T gR bR ⟨fun _ _ _ _ h => h.elim, fun _ _ _ _ _ _ _ _ _ _ _ _ _ h => h.elim⟩ fun m e => by cases e
  | n + 1 => key_body (n + 1) F T gR bR (ok_key F T gR bR n) fun m e => by cases e; exact fun _ _ _ h => h
end
end N3
namespace N3
open PySem PySem.Spec PyProof.Rows L2 KB
section
variable {K : PySem.W.Frag} {mg : Str → Option Value} {base : Heap} {P : Program} {w : World}
theorem ixN {X : Cx} {K : PySem.W.Frag} {P : Program} {w : World} (h : X.K = K) (hp : X.prog = P) (hw : X.w = w) (hS : SysIn K) {n : Nat} (hr : Room n X.A) : IxR X (rIxN P w) := by
  subst h hp hw
  exact ix_nd hS hr
def Pr (N : Nat) (a b : Kd) (d : PyData) : Prop := ∃ x y, d = .tuple [x, y] ∧ VV N a x ∧ VV N b y
def spRi : Sp := fun vs H Q _ => ∃ (F : Addr → Prop) (fv bv : V) (S : Addr) (a b : Kd) (us : List V) (ds : List PyData), vs = [fv, bv, .ref S] ∧ (∀ p, H p = none → F p) ∧ Dt F H fv a.d ∧ Dt F H bv b.d ∧ a.closed = true ∧ a.noFn = true ∧ b.closed = true ∧ b.noFn = true ∧ a.dep ≤ 6 ∧ b.dep ≤ 6 ∧
  H S = some (.lst us) ∧ DtA F H us ds ∧ (∀ d ∈ ds, Pr 4 a b d) ∧ ds.length ≤ 100 ∧ ∀ (v : V) (es : List PyData) (H' : Hp), Same H H' → Dt F H' v (.tuple es) → (∀ e ∈ es, e ∈ ds) → es.length ≤ ds.length → Q v H'
theorem ents_data {F : Addr → Prop} {H : Hp} {ds : List PyData} : ∀ {ys : List Ent}, (∀ x ∈ ys, ∃ e ∈ ds, Dt F H (.ref x.2.2) e) → ∃ es, DtA F H (ys.map fun x => V.ref x.2.2) es ∧ ∀ e ∈ es, e ∈ ds
  | [], _ => ⟨[], .nil, fun e h => nomatch h⟩
  | y :: ys, h => by
    obtain ⟨es, t, k⟩ := ents_data (ys := ys) fun x hx => h x (List.mem_cons_of_mem _ hx)
    obtain ⟨e, he, te⟩ := h y List.mem_cons_self
    refine ⟨e :: es, .cons te t, fun z hz => ?_⟩
    rcases List.mem_cons.mp hz with z1 | z1
    · rw [z1]; exact he
    · exact k z z1
abbrev nRising : List Str := ["_law_fronts", "_law_backs", "_law_some", "_law_found", "_law_pair", "_law_key_here"]
theorem sc_nRising : FnScope nRising ["_law_fronts", "_law_backs", "_law_some"] (defScope (top 51)) := ⟨rfl, rfl, rfl, by decide +kernel, rfl, by decide +kernel, by decide +kernel⟩
theorem ok_rising {f : Addr} {fd : FuncData} (F : FnP K "_law_rising" (top 51) f fd) (T : Bl K mg) (hsd : mg "sorted" = none) (hKey : Has P w K mg base "_law_key" ["_law_form_here", "_law_worth_here"] 7 (spKy 6)) : FnOk P w K mg base CX0 8 f fd ["_law_fronts", "_law_backs", "_law_some"] spRi := by
  obtain ⟨fKey, fdKey, kKey, gKey, bKey, GKey⟩ := hKey
  refine F.ok sc_nRising (fun vs H Q E h => ?_) (fun cdv A outer s H vs Q E hr h => ?_)
  · obtain ⟨F, fv, bv, S, a, b, us, ds, rfl, _⟩ := h
    rfl
  · obtain ⟨Fa, fv, bv, S, a, b, us, ds, rfl, hF, hf, hb, acl, anf, bcl, bnf, ad, bd, hS, du, hp, dl, q⟩ := h
    have sc := sc_nRising
    have hrKey : Room 7 _ := hr
    refine ⟨_, PSs.nox (pss_cons (ps_set (i := 3) sc.nd rfl (Or.inr rfl) pe_dnewK) (pss_cons (ps_for PassesOwn.never rfl (pi_list (pv 2)) (pg_name (i := 4) sc.nd rfl (Or.inl rfl)) (pss_one (ps_asg (pv 4) (pg_sub (pv 3) (pe_tup (pa_cons (pe_call GKey hrKey rfl gKey kKey bKey .nil pass0 (pa_cons (pv 0) (pa_cons (pe_ix ix_tup (pv 4) pe_int (fun _ _ => rfl)) pa_nil))) (pa_cons (pe_call GKey hrKey rfl gKey kKey bKey .nil pass0 (pa_cons (pv 1) (pa_cons (pe_ix ix_tup (pv 4) pe_int (fun _ _ => rfl)) pa_nil))) pa_nil))) (set_nd T.sys hr))))) (pss_one (ps_ret (pe_callTy call_tuple_of (by rfl) T.tuple (by decide +kernel) (pa_cons (pe_lc (own := [("_law_key_here", 5)]) (g := gName 5) (tt := tYes) (by rfl) sc.nd (pi_list (pe_callB (cr_sortedN T.sys hr) (by rfl) hsd (by decide +kernel) (pa_cons (pe_callTy (call_list_nd T.sys rfl) (by rfl) T.list (by decide +kernel) (pa_cons (pv 3) pa_nil)) pa_nil))) (blkOk_by (own := [("_law_key_here", 5)]) (N := nRising) (sc := (defScope (top 51))) (by decide +kernel)) (fun _ _ _ _ _ => (pg_name (i := 5) sc.nd rfl (Or.inl rfl))) (fun _ _ _ _ _ => pts_nil) (fun _ _ _ _ _ => (pe_ix (ixN (K := K) (P := P) (w := w) rfl rfl rfl T.sys hr) (pv 3) (pv 5) (fun _ _ => rfl)))) pa_nil)))))), ?_⟩
    have big : ∀ k : Nat, k ≤ 1000 → k ≤ sizeLine := fun k h => Nat.le_of_lt (small1000 h)
    have lu := du.length
    refine fun d nd => ?_
    have sm0 := @Same.new d _ (.dK []) nd
    refine ⟨_, rfl, S, rfl, ⟨_, SqL.of (sm0 _ _ hS)⟩, for_list (K := K) (a := S) (xs := us) (fun i σ H1 => Same H H1 ∧ ∃ (xs : List Ent) (v : Option V), σ = [some fv, some bv, some (.ref S), some (.ref d), v, none] ∧ ND P w H1 d xs ∧ (∀ x ∈ xs, K2 4 a b x.1 ∧ ∃ e ∈ ds, Dt Fa H (.ref x.2.2) e) ∧ xs.length ≤ i)
      ⟨sm0, [], none, rfl, ⟨.inl ⟨upd_same, rfl⟩, Nat.zero_le _, nofun⟩, nofun, Nat.le_refl _⟩ (fun i σ H1 _ h => SqL.of (h.1 _ _ hS)) ?_ ?_⟩
    · rintro i y σ H1 hi ⟨sm, xs, v, rfl, nD, kx, lx⟩
      have il : i < us.length := (List.getElem?_eq_some_iff.mp hi).1
      obtain ⟨e, he, te⟩ := du.get hi
      have em := List.mem_of_getElem? he
      obtain ⟨x, y', rfl, vx, vy⟩ := hp e em
      have te0 := te
      obtain ⟨pa, ys, rfl, fp, hpa, rp⟩ := te.tupI
      obtain ⟨v0, v1, rfl, r0, r1⟩ := rp.two
      have mv : ∀ {H2 : Hp} {v : V} {z : PyData}, Same H1 H2 → Dt Fa H v z → Dt (fun c => Fa c ∧ c ≠ d) H2 v z := fun s2 t => t.move fun a o f e => ⟨⟨f, fun z => by rw [z, nd] at e; cases e⟩, s2 _ _ (sm _ _ e)⟩
      have hF' : ∀ {H2 : Hp}, Same H1 H2 → ∀ p, H2 p = none → Fa p ∧ p ≠ d := fun s2 p np => ⟨hF p (sm.free (s2.free np)), fun z => nD.ne (by rw [← z]; exact s2.free np)⟩
      refine ⟨_, rfl, _, rfl, _, rfl, _, rfl, pa, _, 0, _, rfl, rfl, SqT.of (sm _ _ hpa), rfl, ?_⟩
      have s0 := Same.refl H1
      refine ⟨fun c => Fa c ∧ c ≠ d, fv, v0, a, x, 4, rfl, hF' s0, mv s0 hf, mv s0 r0, vx, by decide, ad, acl, anf, fun z1 H2 s2 t1 => ?_⟩
      refine ⟨_, rfl, _, rfl, pa, _, 1, _, rfl, rfl, SqT.of (s2 _ _ (sm _ _ hpa)), rfl, ?_⟩
      refine ⟨fun c => Fa c ∧ c ≠ d, bv, v1, b, y', 4, rfl, hF' s2, mv s2 hb, mv s2 r1, vy, by decide, bd, bcl, bnf, fun z2 H3 s3 t2 => ?_⟩
      refine ⟨big _ (by show (2 : Nat) ≤ 1000; decide), fun p np => ?_⟩
      have s13 := s2.trans s3
      have smp := @Same.new p _ (.tup [z1, z2]) np
      have dx := ky_depth vx
      have dy := ky_depth vy
      have kd : Dt (fun c => c ≠ d) (upd H3 p (.tup [z1, z2])) (.ref p) (.tuple [ky a x, ky b y']) :=
        .tup (hF' s13 p np).2 upd_same (.cons ((t1.keep (s3.trans smp)).move fun a o f e => ⟨f.2, e⟩) (.cons ((t2.keep smp).move fun a o f e => ⟨f.2, e⟩) .nil))
      refine ⟨d, p, pa, xs, .tuple [ky a x, ky b y'], rfl, rfl, rfl, nD.keep (s13.trans smp), by omega, by simp only [isKy, isKyA, ky_isK vx, ky_isK vy, Bool.and_self], by simp only [PyData.depth, PyData.depthAll]; omega, kd, fun H4 e4 n4 => ?_⟩
      have s04 : Same H H4 := fun c o e => by
        rw [e4, upd_ne (ne_of_none e nd)]
        exact smp _ _ (s13 _ _ (sm _ _ e))
      refine ⟨s04, _, _, rfl, n4, fun z hz => ?_, Nat.le_trans (stN_len xs _ p pa) (by omega)⟩
      rcases stN_mem hz with ⟨w', hw', e1, e2, e3⟩ | rfl
      · refine ⟨by rw [e1]; exact (kx w' hw').1, ?_⟩
        rcases e3 with e3 | e3
        · rw [e3]; exact (kx w' hw').2
        · rw [e3]; exact ⟨_, em, te0⟩
      · exact ⟨⟨x, y', vx, vy, rfl⟩, _, em, te0⟩
    · rintro σ H1 ⟨sm, xs, v, rfl, nD, kx, lx⟩
      refine ⟨_, rfl, d, xs, rfl, nD, fun p np => ?_⟩
      have sp := @Same.new p _ (.lst (xs.map fun x => V.ref x.2.1)) np
      refine ⟨p, xs, a, b, 4, rfl, upd_same, nD.len, Nat.le_trans ad (by decide), Nat.le_trans bd (by decide), fun x hx => ⟨(kx x hx).1, _, (nD.key x hx).2.2.keep sp⟩, fun p2 ys np2 perm => ?_⟩
      have sp2 := @Same.new p2 _ (.lst (ys.map fun x => V.ref x.2.1)) np2
      have s12 := sp.trans sp2
      have nD2 := nD.keep s12
      have ly := perm.length_eq
      have lx2 := nD.len
      have kx' : ∀ x ∈ ys, x ∈ xs := fun x hx => perm.mem_iff.mp hx
      refine ⟨p2, rfl, ⟨_, SqL.of upd_same⟩, fun D nDD => lc_list (K := K) (a := p2) (xs := ys.map fun x => V.ref x.2.1) (fun i H2 => Same (upd (upd H1 p (.lst (xs.map fun x => V.ref x.2.1))) p2 (.lst (ys.map fun x => V.ref x.2.1))) H2 ∧ H2 D = some (.lst ((ys.take i).map fun x => V.ref x.2.2)))
        ⟨Same.new nDD, upd_same⟩ (fun i H2 _ hP => SqL.of (hP.1 _ _ upd_same)) ?_ ?_⟩
      · rintro i e H2 hi ⟨s2, hD⟩
        obtain ⟨x, hx, rfl⟩ := at_map hi
        refine ⟨rfl, ?_⟩
        refine iteT (B := Same (upd (upd H1 p (.lst (xs.map fun x => V.ref x.2.1))) p2 (.lst (ys.map fun x => V.ref x.2.1))) H2 ∧ H2 D = some (.lst ((ys.take (i + 1)).map fun x => V.ref x.2.2))) ?_
        refine ⟨_, rfl, _, rfl, d, xs, x, rfl, rfl, nD2.keep s2, kx' x (List.mem_of_getElem? hx), ?_⟩
        refine ⟨_, hD, Nat.lt_of_le_of_lt (by rw [List.length_map, List.length_take]; omega : _ ≤ 1000) (by decide), fun b o e2 => ?_, ?_⟩
        · rw [upd_ne (ne_of_none e2 nDD)]
          exact s2 b o e2
        · rw [upd_same, take_snoc hx, List.map_append]
          rfl
      · rintro H2 ⟨s2, hD⟩
        rw [List.length_map, List.take_length] at hD
        refine ⟨D, _, rfl, .inl ⟨SqL.of hD, fun p3 np3 => ?_⟩⟩
        have s02 : Same H H2 := sm.trans (s12.trans s2)
        obtain ⟨es, te, ke⟩ := ents_data (ys := ys) (ds := ds) (F := Fa) (H := upd H2 p3 (.tup (ys.map fun x => V.ref x.2.2))) fun x hx => by
          obtain ⟨e, he, t⟩ := (kx x (kx' x hx)).2
          exact ⟨e, he, t.keep (s02.trans (Same.new np3))⟩
        have le := te.length
        rw [List.length_map] at le
        exact q _ es _ (s02.trans (Same.new np3)) (.tup (hF p3 (s02.free np3)) upd_same te) ke (by omega)
end
end N3
namespace N3
open PySem PySem.Spec PyProof.Rows L2 KB
section
variable {K : PySem.W.Frag} {mg : Str → Option Value} {base : Heap} {P : Program} {w : World}
def spRw : Sp := fun vs H Q _ => ∃ (w : Addr) (fv bv : V) (many : Int) (c : Int) (a b : Kd), vs = [.ref w, fv, bv, .int many] ∧ Dt (Nw w) H fv a.d ∧ Dt (Nw w) H bv b.d ∧ a.closed = true ∧ a.noFn = true ∧ b.closed = true ∧ b.noFn = true ∧ a.dep ≤ 3 ∧ b.dep ≤ 3 ∧ 0 ≤ many ∧ many ≤ 6 ∧ Wl H w c ∧ c + 5000 < 2 ^ 60 ∧
  ∀ (v : V) (es : List PyData) (c' : Int) (H' : Hp), Dt (Nw w) H' v (.tuple es) → (∀ e ∈ es, Pr 4 a b e) → es.length ≤ 6 → Kw w H H' → Wl H' w c' → c' ≤ c + 5000 → Q v H'
theorem wc3 : WC 3 = 655 := by decide
abbrev nRows : List Str := ["_law_well_here", "_law_fronts", "_law_backs", "_law_many", "_law_firsts", "_law_lasts", "_law_some", "_law_step", "_law_lead"]
theorem sc_nRows : FnScope nRows ["_law_well_here", "_law_fronts", "_law_backs", "_law_many"] (defScope (top 52)) := ⟨rfl, rfl, rfl, by decide +kernel, rfl, by decide +kernel, by decide +kernel⟩
theorem ok_rows {f : Addr} {fd : FuncData} (F : FnP K "_law_rows" (top 52) f fd) (T : Bl K mg) (hDip : Has P w K mg base "_law_dip" ["_law_well_here", "_law_top"] 1 spDraw) (hPickL : Has P w K mg base "_law_pick" ["_law_well_here", "_law_some"] 2 spPickL) (hWorth : Has P w K mg base "_law_worth" ["_law_well_here", "_law_form_here"] 7 (spWo 3)) (hRising : Has P w K mg base "_law_rising" ["_law_fronts", "_law_backs", "_law_some"] 8 spRi) : FnOk P w K mg base CX0 9 f fd ["_law_well_here", "_law_fronts", "_law_backs", "_law_many"] spRw := by
  obtain ⟨fDip, fdDip, kDip, gDip, bDip, GDip⟩ := hDip
  obtain ⟨fPickL, fdPickL, kPickL, gPickL, bPickL, GPickL⟩ := hPickL
  obtain ⟨fWorth, fdWorth, kWorth, gWorth, bWorth, GWorth⟩ := hWorth
  obtain ⟨fRising, fdRising, kRising, gRising, bRising, GRising⟩ := hRising
  refine F.ok sc_nRows (fun vs H Q E h => ?_) (fun cdv A outer s H vs Q E hr h => ?_)
  · obtain ⟨w, fv, bv, many, c, a, b, rfl, _⟩ := h
    rfl
  · obtain ⟨w, fv, bv, many, c, a, b, rfl, hf, hb, acl, anf, bcl, bnf, ad, bd, m0, m6, hw, hc, q⟩ := h
    have sc := sc_nRows
    have hrDip : Room 1 _ := hr.mono (by omega)
    have hrPickL : Room 2 _ := hr.mono (by omega)
    have hrWorth : Room 7 _ := hr.mono (by omega)
    have hrRising : Room 8 _ := hr
    refine ⟨_, PSs.nox (pss_cons (ps_par3 (i := 4) (j := 5) (l := 6) (by rfl) sc.nd rfl rfl rfl (by decide) (by decide) (by decide) rfl rfl rfl (pa_cons (pe_lst pa_nil) (pa_cons (pe_lst pa_nil) (pa_cons (pe_lst pa_nil) pa_nil))) (by rfl)) (pss_cons (ps_for PassesOwn.never rfl (pi_range1 rfl T.range (pa_cons (pe_op op_add pe_int (pe_call GDip hrDip rfl gDip kDip bDip .nil pass0 (pa_cons (pv 0) (pa_cons pe_int pa_nil)))) pa_nil)) (pg_name (i := 7) sc.nd rfl (Or.inl rfl)) (pss_cons (ps_expr (pe_bm PySem.F.plainAttrs_list PySem.F.slot_list_append PySem.F.type_list_append mt_append (pv 4) (pa_cons (pe_call GWorth hrWorth rfl gWorth kWorth bWorth .nil pass0 (pa_cons (pv 0) (pa_cons (pv 1) pa_nil))) pa_nil))) (pss_one (ps_expr (pe_bm PySem.F.plainAttrs_list PySem.F.slot_list_append PySem.F.type_list_append mt_append (pv 5) (pa_cons (pe_call GWorth hrWorth rfl gWorth kWorth bWorth .nil pass0 (pa_cons (pv 0) (pa_cons (pv 2) pa_nil))) pa_nil)))))) (pss_cons (ps_for PassesOwn.never rfl (pi_range1 rfl T.range (pa_cons (pv 3) pa_nil)) (pg_name (i := 7) sc.nd rfl (Or.inl rfl)) (pss_cons (ps_set (i := 8) sc.nd rfl (Or.inl rfl) (pe_call GPickL hrPickL rfl gPickL kPickL bPickL .nil pass0 (pa_cons (pv 0) (pa_cons (pv 4) pa_nil)))) (pss_one (ps_expr (pe_bm PySem.F.plainAttrs_list PySem.F.slot_list_append PySem.F.type_list_append mt_append (pv 6) (pa_cons (pe_tup (pa_cons (pv 8) (pa_cons (pe_call GPickL hrPickL rfl gPickL kPickL bPickL .nil pass0 (pa_cons (pv 0) (pa_cons (pv 5) pa_nil))) pa_nil))) pa_nil)))))) (pss_one (ps_ret (pe_call GRising hrRising rfl gRising kRising bRising .nil pass0 (pa_cons (pv 1) (pa_cons (pv 2) (pa_cons (pv 6) pa_nil))))))))), ?_⟩
    have big : ∀ k : Nat, k ≤ 1000 → k ≤ sizeLine := fun k h => Nat.le_of_lt (small1000 h)
    have w3 := wc3
    have hw0 := hw
    refine ⟨Nat.zero_le _, fun l1 n1 => ?_⟩
    have s1 := @Same.new l1 _ (.lst []) n1
    refine ⟨Nat.zero_le _, fun l2 n2 => ?_⟩
    have s2 := @Same.new l2 _ (.lst []) n2
    have d12 : l1 ≠ l2 := ne_of_none upd_same n2
    refine ⟨Nat.zero_le _, fun l3 n3 => ?_⟩
    have s3 := @Same.new l3 _ (.lst []) n3
    have d23 : l2 ≠ l3 := ne_of_none upd_same n3
    have d13 : l1 ≠ l3 := ne_of_none (s2 _ _ upd_same) n3
    have s03 := s1.trans (s2.trans s3)
    have n2' : H l2 = none := s1.free n2
    have n3' : H l3 = none := (s1.trans s2).free n3
    have a1 := s3 l1 _ (s2 l1 _ upd_same)
    have a2 := s3 l2 _ upd_same
    have a3 := @upd_same (upd (upd H l1 (.lst [])) l2 (.lst [])) l3 (.lst [])
    refine ⟨_, _, _, rfl, ?_⟩
    generalize upd (upd (upd H l1 (.lst [])) l2 (.lst [])) l3 (.lst []) = H1 at s03 a1 a2 a3 ⊢
    have e1 : l1 ≠ w := (hw.ne n1).symm
    have e2 : l2 ≠ w := (hw.ne n2').symm
    have e3 : l3 ≠ w := (hw.ne n3').symm
    let Fz : Addr → Prop := fun c => c ≠ w ∧ c ≠ l1 ∧ c ≠ l2 ∧ c ≠ l3
    have mv : ∀ {H2 : Hp} {v : V} {z : PyData}, Kw w H H2 → Dt (Nw w) H v z → Dt Fz H2 v z := fun k t => t.move fun a o f e => ⟨⟨f, ne_of_none e n1, ne_of_none e n2', ne_of_none e n3'⟩, k _ _ f e⟩
    -- a list grows
    have putk : ∀ {l : Addr} {o : HO} {H2 H3 : Hp}, H l = none → Kw w H H2 → Kw w H2 H3 → Kw w H (upd H3 l o) := fun nl k k' a o n e => by
      rw [upd_ne (ne_of_none e nl)]
      exact k' a o n (k a o n e)
    refine ⟨_, rfl, w, 3, c, rfl, hw.same s03, by omega, by decide, by decide, fun r c1 H2 r0 r3 k2 w2 g2 => ?_⟩
    have k02 : Kw w H H2 := (Kw.same s03).trans k2
    refine ⟨_, _, rfl, rfl, 1 + r, rfl, by omega, by omega, for_range (lo := 0) (n := (1 + r).toNat) (fun i σ H3 => ∃ (u1 u2 : List V) (p1 p2 : List PyData) (t : Option V) (c3 : Int), σ = [some (.ref w), some fv, some bv, some (.int many), some (.ref l1), some (.ref l2), some (.ref l3), t, none] ∧
      Kw w H H3 ∧ H3 l1 = some (.lst u1) ∧ H3 l2 = some (.lst u2) ∧ H3 l3 = some (.lst []) ∧ DtA Fz H3 u1 p1 ∧ DtA Fz H3 u2 p2 ∧ (∀ d ∈ p1, VV 4 a d) ∧ (∀ d ∈ p2, VV 4 b d) ∧ u1.length = i ∧ u2.length = i ∧ Wl H3 w c3 ∧ c3 ≤ c + 1 + i * 1310)
      ⟨[], [], [], [], none, c1, rfl, k02, k2 _ _ e1 a1, k2 _ _ e2 a2, k2 _ _ e3 a3, .nil, .nil, nofun, nofun, rfl, rfl, w2, by omega⟩ ?_ ?_⟩
    · rintro i σ H3 hi ⟨u1, u2, p1, p2, t, c3, rfl, k3, b1, b2, b3, t1, t2, v1, v2, len1, len2, w3', g3⟩
      have lim : (i : Int) * 1310 ≤ 3 * 1310 := Int.mul_le_mul_of_nonneg_right (by omega) (by omega)
      refine ⟨_, rfl, .inl ⟨rfl, _, SqL.of b1⟩, _, rfl, _, rfl, ?_⟩
      refine ⟨w, fv, a, c3, rfl, hf.kw k3, ad, acl, anf, w3', by omega, fun x1 d1 c4 H4 y1 z1 k4 w4 g4 => ?_⟩
      refine ⟨l1, u1, x1, rfl, rfl, k4 _ _ e1 b1, small1000 (by omega), ?_⟩
      have q4 : ∀ {v : V} {z : PyData}, Dt Fz H3 v z → Dt Fz (upd H4 l1 (.lst (u1 ++ [x1]))) v z := fun t => t.move fun a o f e => ⟨f, by rw [upd_ne f.2.1]; exact k4 a o f.1 e⟩
      have q4A : ∀ {v : List V} {z : List PyData}, DtA Fz H3 v z → DtA Fz (upd H4 l1 (.lst (u1 ++ [x1]))) v z := fun t => t.move fun a o f e => ⟨f, by rw [upd_ne f.2.1]; exact k4 a o f.1 e⟩
      have y1' : Dt Fz (upd H4 l1 (.lst (u1 ++ [x1]))) x1 d1 := y1.move fun a o f e => by
        have nw : a ≠ w := fun z => w3'.some (by rw [← z]; exact f)
        have n1' : a ≠ l1 := fun z => by rw [z] at f; exact absurd (f.symm.trans b1) (by simp)
        have n2'' : a ≠ l2 := fun z => by rw [z] at f; exact absurd (f.symm.trans b2) (by simp)
        have n3'' : a ≠ l3 := fun z => by rw [z] at f; exact absurd (f.symm.trans b3) (by simp)
        exact ⟨⟨nw, n1', n2'', n3''⟩, by rw [upd_ne n1']; exact e⟩
      have k5 : Kw w H (upd H4 l1 (.lst (u1 ++ [x1]))) := putk n1 k3 k4
      have w5 : Wl (upd H4 l1 (.lst (u1 ++ [x1]))) w c4 := w4.off e1
      have b2' : upd H4 l1 (.lst (u1 ++ [x1])) l2 = some (.lst u2) := by rw [upd_ne d12.symm]; exact k4 _ _ e2 b2
      have b3' : upd H4 l1 (.lst (u1 ++ [x1])) l3 = some (.lst []) := by rw [upd_ne d13.symm]; exact k4 _ _ e3 b3
      have b1' : upd H4 l1 (.lst (u1 ++ [x1])) l1 = some (.lst (u1 ++ [x1])) := upd_same
      have t1' := (q4A t1).append (.cons y1' .nil)
      have t2' := q4A t2
      generalize upd H4 l1 (.lst (u1 ++ [x1])) = H5 at k5 w5 b1' b2' b3' t1' t2' ⊢
      refine ⟨_, rfl, .inl ⟨rfl, _, SqL.of b2'⟩, _, rfl, _, rfl, ?_⟩
      refine ⟨w, bv, b, c4, rfl, hb.kw k5, bd, bcl, bnf, w5, by omega, fun x2 d2 c6 H6 y2 z2 k6 w6 g6 => ?_⟩
      refine ⟨l2, u2, x2, rfl, rfl, k6 _ _ e2 b2', small1000 (by omega), ?_⟩
      have q6A : ∀ {v : List V} {z : List PyData}, DtA Fz H5 v z → DtA Fz (upd H6 l2 (.lst (u2 ++ [x2]))) v z := fun t => t.move fun a o f e => ⟨f, by rw [upd_ne f.2.2.1]; exact k6 a o f.1 e⟩
      have y2' : Dt Fz (upd H6 l2 (.lst (u2 ++ [x2]))) x2 d2 := y2.move fun a o f e => by
        have nw : a ≠ w := fun z => w5.some (by rw [← z]; exact f)
        have n1' : a ≠ l1 := fun z => by rw [z] at f; exact absurd (f.symm.trans b1') (by simp)
        have n2'' : a ≠ l2 := fun z => by rw [z] at f; exact absurd (f.symm.trans b2') (by simp)
        have n3'' : a ≠ l3 := fun z => by rw [z] at f; exact absurd (f.symm.trans b3') (by simp)
        exact ⟨⟨nw, n1', n2'', n3''⟩, by rw [upd_ne n2'']; exact e⟩
      refine ⟨u1 ++ [x1], u2 ++ [x2], p1 ++ [d1], p2 ++ [d2], _, c6, rfl, putk n2' k5 k6, by rw [upd_ne d12]; exact k6 _ _ e1 b1', upd_same, by rw [upd_ne d23.symm]; exact k6 _ _ e3 b3', q6A t1', (q6A t2').append (.cons y2' .nil), fun z hz => ?_, fun z hz => ?_, by rw [List.length_append, len1]; rfl, by rw [List.length_append, len2]; rfl, w6.off e2, by omega⟩
      · rcases List.mem_append.mp hz with h | h
        · exact v1 z h
        · rw [List.mem_singleton.mp h]; exact z1
      · rcases List.mem_append.mp hz with h | h
        · exact v2 z h
        · rw [List.mem_singleton.mp h]; exact z2
    · rintro σ H3 ⟨u1, u2, p1, p2, t, c3, rfl, k3, b1, b2, b3, t1, t2, v1, v2, len1, len2, w3', g3⟩
      have lim : (((1 + r).toNat : Nat) : Int) * 1310 ≤ 3 * 1310 := Int.mul_le_mul_of_nonneg_right (by omega) (by omega)
      have f1 : 0 < u1.length ∧ u1.length ≤ 3 := by omega
      have f2 : 0 < u2.length ∧ u2.length ≤ 3 := by omega
      have z1 := t1.length
      have z2 := t2.length
      refine ⟨_, rfl, many, rfl, by omega, by omega, for_range (lo := 0) (n := many.toNat) (fun i σ H4 => ∃ (us : List V) (ps : List PyData) (t t2 : Option V) (c4 : Int), σ = [some (.ref w), some fv, some bv, some (.int many), some (.ref l1), some (.ref l2), some (.ref l3), t, t2] ∧
        Kw w H H4 ∧ H4 l1 = some (.lst u1) ∧ H4 l2 = some (.lst u2) ∧ H4 l3 = some (.lst us) ∧ DtA Fz H4 u1 p1 ∧ DtA Fz H4 u2 p2 ∧ DtA Fz H4 us ps ∧ (∀ d ∈ ps, Pr 4 a b d) ∧ us.length = i ∧ Wl H4 w c4 ∧ c4 ≤ c3 + i * 2)
        ⟨[], [], _, none, c3, rfl, k3, b1, b2, b3, t1, t2, .nil, nofun, rfl, w3', by omega⟩ ?_ ?_⟩
      · rintro i σ H4 hi ⟨us, ps, t, t', c4, rfl, k4, b1, b2, b3, t1, t2, t3, v3, len3, w4, g4⟩
        refine ⟨_, rfl, _, rfl, w, l1, u1, c4, rfl, w4, by omega, b1, e1, f1.1, by omega, fun j x1 c5 H5 hj k5 w5 g5 => ?_⟩
        obtain ⟨dx, hdx, tx⟩ := t1.get hj
        refine ⟨_, rfl, .inl ⟨rfl, _, SqL.of (k5 _ _ e3 b3)⟩, _, rfl, _, rfl, _, rfl, w, l2, u2, c5, rfl, w5, by omega, k5 _ _ e2 b2, e2, f2.1, by omega, fun j' x2 c6 H6 hj' k6 w6 g6 => ?_⟩
        obtain ⟨dy, hdy, ty⟩ := t2.get hj'
        refine ⟨big _ (by show (2 : Nat) ≤ 1000; decide), fun p np => ?_⟩
        have k46 := k5.trans k6
        have b3' := k46 _ _ e3 b3
        have np3 : l3 ≠ p := ne_of_none b3' np
        refine ⟨l3, us, _, rfl, rfl, by rw [upd_ne np3]; exact b3', small1000 (by omega), ?_⟩
        have kz : ∀ {v : V} {z : PyData}, Dt Fz H4 v z → Dt Fz (upd (upd H6 p (.tup [x1, x2])) l3 (.lst (us ++ [.ref p]))) v z := fun t => t.move fun a o f e => ⟨f, by
          rw [upd_ne f.2.2.2, upd_ne (ne_of_none (k46 a o f.1 e) np)]; exact k46 a o f.1 e⟩
        have kzA : ∀ {v : List V} {z : List PyData}, DtA Fz H4 v z → DtA Fz (upd (upd H6 p (.tup [x1, x2])) l3 (.lst (us ++ [.ref p]))) v z := fun t => t.move fun a o f e => ⟨f, by
          rw [upd_ne f.2.2.2, upd_ne (ne_of_none (k46 a o f.1 e) np)]; exact k46 a o f.1 e⟩
        have pw : p ≠ w := fun z => w6.some (by rw [← z]; exact np)
        have q1 : p ≠ l1 := (ne_of_none (k46 _ _ e1 b1) np).symm
        have q2 : p ≠ l2 := (ne_of_none (k46 _ _ e2 b2) np).symm
        have nt : Dt Fz (upd (upd H6 p (.tup [x1, x2])) l3 (.lst (us ++ [.ref p]))) (.ref p) (.tuple [dx, dy]) :=
          .tup ⟨pw, q1, q2, np3.symm⟩ (by rw [upd_ne np3.symm]; exact upd_same) (.cons (kz tx) (.cons (kz ty) .nil))
        refine ⟨us ++ [.ref p], ps ++ [.tuple [dx, dy]], _, _, c6, rfl, ?_, ?_, ?_, upd_same, kzA t1, kzA t2, (kzA t3).append (.cons nt .nil), fun z hz => ?_, by rw [List.length_append, len3]; rfl, (w6.same (Same.new np)).off e3, by omega⟩
        · exact putk (l := l3) n3' k4 (k46.trans (Kw.new np))
        · rw [upd_ne d13, upd_ne q1.symm]; exact k46 _ _ e1 b1
        · rw [upd_ne d23, upd_ne q2.symm]; exact k46 _ _ e2 b2
        · rcases List.mem_append.mp hz with h | h
          · exact v3 z h
          · rw [List.mem_singleton.mp h]
            exact ⟨dx, dy, rfl, v1 dx (List.mem_of_getElem? hdx), v2 dy (List.mem_of_getElem? hdy)⟩
      · rintro σ H4 ⟨us, ps, t, t', c4, rfl, k4, b1, b2, b3, t1, t2, t3, v3, len3, w4, g4⟩
        have lp := t3.length
        have w4s := w4.some
        refine ⟨_, rfl, _, rfl, _, rfl, Fz, fv, bv, l3, a, b, us, ps, rfl, fun p np => ⟨fun z => w4s (by rw [← z]; exact np), (ne_of_none b1 np).symm, (ne_of_none b2 np).symm, (ne_of_none b3 np).symm⟩, mv k4 hf, mv k4 hb, acl, anf, bcl, bnf, by omega, by omega, b3, t3, v3, by omega, fun v es H5 s5 t5 m5 l5 => ?_⟩
        exact q v es c4 H5 (t5.move fun a o f e => ⟨f.1, e⟩) (fun e he => v3 e (m5 e he)) (by omega) (k4.trans (Kw.same s5)) (w4.same s5) (by omega)
end
end N3
namespace N3
open PySem PySem.Spec PyProof.Rows L2 KB
section
variable {K : PySem.W.Frag} {mg : Str → Option Value} {base : Heap} {P : Program} {w : World}
def spClU : Sp := fun vs H Q E => ∃ n, n ≤ 2 ∧ spCl n vs H Q E
theorem nl_kd : ∀ k : Kd, noL k.d = true
  | .num => rfl
  | .unit => rfl
  | .var _ => rfl
  | .lst a => by simp only [Kd.d, noL, noLA, nl_kd a, Bool.and_self]
  | .pair a b => by simp only [Kd.d, noL, noLA, nl_kd a, nl_kd b, Bool.and_self]
  | .eith a b => by simp only [Kd.d, noL, noLA, nl_kd a, nl_kd b, Bool.and_self]
  | .fn a b => by simp only [Kd.d, noL, noLA, nl_kd a, nl_kd b, Bool.and_self]
theorem nl_all : ∀ {ds : List PyData}, (∀ d ∈ ds, noL d = true) → noLA ds = true
  | [], _ => by rw [noLA]
  | d :: ds, h => by
    rw [noLA, h d List.mem_cons_self, nl_all fun x hx => h x (List.mem_cons_of_mem _ hx)]
    rfl
theorem nl_vv {N : Nat} {k : Kd} {d : PyData} (h : VV N k d) : noL d = true := by
  induction h with
  | num i _ => rfl
  | unit => rfl
  | lst hl h ih => rw [noL]; exact nl_all ih
  | pair hx hy ihx ihy => simp only [noL, noLA, ihx, ihy, Bool.and_self]
  | left hx ih => simp only [noL, noLA, ih, Bool.and_self]
  | right hx ih => simp only [noL, noLA, ih, Bool.and_self]
theorem nl_prs {N : Nat} {a b : Kd} {es : List PyData} (h : ∀ e ∈ es, Pr N a b e) : noL (.tuple es) = true := by
  rw [noL]
  exact nl_all fun e he => by
    obtain ⟨x, y, rfl, hx, hy⟩ := h e he
    simp only [noL, noLA, nl_vv hx, nl_vv hy, Bool.and_self]
def Rw (d : PyData) : Prop := ∃ (x : Str) (a b : Kd) (es : List PyData), d = .tuple [.str x, a.d, b.d, .tuple es] ∧ x ∈ abc ∧ a.closed = true ∧ a.noFn = true ∧ b.closed = true ∧ b.noFn = true ∧ a.dep ≤ 3 ∧ b.dep ≤ 3 ∧ (∀ e ∈ es, Pr 4 a b e) ∧ es.length ≤ 6
def spLk : Sp := fun vs H Q _ => ∃ (w t : Addr) (c : Int) (ns : List Str), vs = [.ref w, .ref t, .int 2] ∧ H t = some (.tup (ns.map V.str)) ∧ 1 ≤ ns.length ∧ ns.length ≤ 3 ∧ (∀ x ∈ ns, x ∈ abc) ∧ Wl H w c ∧ c + 20000 < 2 ^ 60 ∧
  ∀ (v : V) (ds : List PyData) (c' : Int) (H' : Hp), Dt (Nw w) H' v (.tuple ds) → (∀ d ∈ ds, Rw d) → 1 ≤ ds.length → ds.length ≤ 3 → Kw w H H' → Wl H' w c' → c' ≤ c + 20000 → Q v H'
theorem ck2' : Ck 2 = 14 := by decide
theorem ck_mono {n : Nat} (h : n ≤ 2) : Ck n ≤ 14 := by
  match n, h with
  | 0, _ => decide
  | 1, _ => decide
  | 2, _ => decide
abbrev nLink : List Str := ["_law_well_here", "_law_names_here", "_law_left", "_law_rows_here", "_law_name", "_law_fronts", "_law_backs"]
theorem sc_nLink : FnScope nLink ["_law_well_here", "_law_names_here", "_law_left"] (defScope (top 53)) := ⟨rfl, rfl, rfl, by decide +kernel, rfl, by decide +kernel, by decide +kernel⟩
theorem ok_link {f : Addr} {fd : FuncData} (F : FnP K "_law_link" (top 53) f fd) (T : Bl K mg) (hDip : Has P w K mg base "_law_dip" ["_law_well_here", "_law_top"] 1 spDraw) (hClosed : Has P w K mg base "_law_closed" ["_law_well_here", "_law_left"] 4 spClU) (hRows : Has P w K mg base "_law_rows" ["_law_well_here", "_law_fronts", "_law_backs", "_law_many"] 9 spRw) : FnOk P w K mg base CX0 10 f fd ["_law_well_here", "_law_names_here", "_law_left"] spLk := by
  obtain ⟨fDip, fdDip, kDip, gDip, bDip, GDip⟩ := hDip
  obtain ⟨fClosed, fdClosed, kClosed, gClosed, bClosed, GClosed⟩ := hClosed
  obtain ⟨fRows, fdRows, kRows, gRows, bRows, GRows⟩ := hRows
  refine F.ok sc_nLink (fun vs H Q E h => ?_) (fun cdv A outer s H vs Q E hr h => ?_)
  · obtain ⟨w, t, c, ns, rfl, _⟩ := h
    rfl
  · obtain ⟨w, t, c, ns, rfl, ht, n1, n3, hx, hw, hc, q⟩ := h
    have sc := sc_nLink
    have hrDip : Room 1 _ := hr.mono (by omega)
    have hrClosed : Room 4 _ := hr.mono (by omega)
    have hrRows : Room 9 _ := hr
    refine ⟨_, PSs.nox (pss_cons (ps_set (i := 3) sc.nd rfl (Or.inl rfl) (pe_lst pa_nil)) (pss_cons (ps_for PassesOwn.never rfl (pi_tup (pv 1)) (pg_name (i := 4) sc.nd rfl (Or.inl rfl)) (pss_cons (ps_set (i := 5) sc.nd rfl (Or.inl rfl) (pe_call GClosed hrClosed rfl gClosed kClosed bClosed .nil pass0 (pa_cons (pv 0) (pa_cons (pe_call GDip hrDip rfl gDip kDip bDip .nil pass0 (pa_cons (pv 0) (pa_cons (pe_op op_add (pv 2) pe_int) pa_nil))) pa_nil)))) (pss_cons (ps_set (i := 6) sc.nd rfl (Or.inl rfl) (pe_ifExp (pt_cmpR op_eq (pe_call GDip hrDip rfl gDip kDip bDip .nil pass0 (pa_cons (pv 0) (pa_cons pe_int pa_nil))) pe_int (nomark _)) (pv 5) (pe_call GClosed hrClosed rfl gClosed kClosed bClosed .nil pass0 (pa_cons (pv 0) (pa_cons (pe_call GDip hrDip rfl gDip kDip bDip .nil pass0 (pa_cons (pv 0) (pa_cons (pe_op op_add (pv 2) pe_int) pa_nil))) pa_nil))))) (pss_one (ps_expr (pe_bm PySem.F.plainAttrs_list PySem.F.slot_list_append PySem.F.type_list_append mt_append (pv 3) (pa_cons (pe_tup (pa_cons (pv 4) (pa_cons (pv 5) (pa_cons (pv 6) (pa_cons (pe_call GRows hrRows rfl gRows kRows bRows .nil pass0 (pa_cons (pv 0) (pa_cons (pv 5) (pa_cons (pv 6) (pa_cons (pe_call GDip hrDip rfl gDip kDip bDip .nil pass0 (pa_cons (pv 0) (pa_cons pe_int pa_nil))) pa_nil))))) pa_nil))))) pa_nil))))))) (pss_one (ps_ret (pe_callTy call_tuple_of (by rfl) T.tuple (by decide +kernel) (pa_cons (pv 3) pa_nil)))))), ?_⟩
    have big : ∀ k : Nat, k ≤ 1000 → k ≤ sizeLine := fun k h => Nat.le_of_lt (small1000 h)
    have tw := wl_ne hw ht
    refine ⟨Nat.zero_le _, fun l nl => ?_⟩
    have sm := @Same.new l _ (.lst []) nl
    have lw : l ≠ w := (hw.ne nl).symm
    let Fz : Addr → Prop := fun c => c ≠ w ∧ c ≠ l
    refine ⟨_, rfl, t, rfl, ⟨_, SqT.of (sm _ _ ht)⟩, for_tup (K := K) (a := t) (xs := ns.map V.str) (fun i σ H3 => ∃ (us : List V) (ds : List PyData) (t1 t2 t3 : Option V) (c3 : Int), σ = [some (.ref w), some (.ref t), some (.int 2), some (.ref l), t1, t2, t3] ∧
      Kw w H H3 ∧ H3 l = some (.lst us) ∧ DtA Fz H3 us ds ∧ (∀ d ∈ ds, Rw d) ∧ us.length = i ∧ Wl H3 w c3 ∧ c3 ≤ c + i * 6000)
      ⟨[], [], none, none, none, c, rfl, Kw.same sm, upd_same, .nil, nofun, rfl, hw.same sm, by omega⟩ (fun i σ H3 _ h => by
        obtain ⟨us, ds, t1, t2, t3, c3, _, k3, _⟩ := h
        exact SqT.of (k3 _ _ tw ht)) ?_ ?_⟩
    · rintro i y σ H3 hi ⟨us, ds, t1, t2, t3, c3, rfl, k3, b1, dt, rw', len, w3, g3⟩
      obtain ⟨x, hx', rfl⟩ := at_map hi
      have il : i < ns.length := (List.getElem?_eq_some_iff.mp hx').1
      have lim : (i : Int) * 6000 ≤ 3 * 6000 := Int.mul_le_mul_of_nonneg_right (by omega) (by omega)
      refine ⟨_, rfl, _, rfl, _, rfl, _, _, rfl, rfl, w, 3, c3, rfl, w3, by omega, by decide, by decide, fun r c4 H4 r0 r3 k4 w4 g4 => ?_⟩
      obtain ⟨n, rfl⟩ := Int.eq_ofNat_of_zero_le r0
      have cn := ck_mono (show n ≤ 2 by omega)
      refine ⟨n, by omega, w, c4, rfl, w4, by omega, fun fv a c5 H5 hf ad acl anf k5 w5 g5 => ?_⟩
      refine ⟨_, rfl, w, 3, c5, rfl, w5, by omega, by decide, by decide, fun r2 c6 H6 r20 r23 k6 w6 g6 => ?_⟩
      have k36 := k4.trans (k5.trans k6)
      refine ⟨rfl, _, rfl, ite2 (fun g => ?_) (fun g => ?_)⟩
      · refine ⟨_, rfl, ?_⟩
        have kT := k36
        have wT := w6
        have hfT := hf.kw k6
        have hbT := hf.kw k6
        have bcl := acl
        have bnf := anf
        refine ⟨_, rfl, .inl ⟨rfl, _, SqL.of (kT _ _ lw b1)⟩, _, rfl, _, rfl, _, rfl, _, rfl, _, rfl, _, rfl, _, rfl, w, 7, c6, rfl, wT, by omega, by decide, by decide, fun m c9 H9 m0 m7 k9 w9 g9 => ?_⟩
        refine ⟨w, fv, fv, m, c9, a, a, rfl, hfT.kw k9, hbT.kw k9, acl, anf, bcl, bnf, by omega, by omega, m0, by omega, w9, by omega, fun v es cA HA tv me le kA wA gA => ?_⟩
        refine ⟨big _ (by show (4 : Nat) ≤ 1000; decide), fun p np => ?_⟩
        have kx : Kw w H3 HA := kT.trans (k9.trans kA)
        have bA := kx _ _ lw b1
        have npl : l ≠ p := ne_of_none bA np
        refine ⟨l, us, _, rfl, rfl, by rw [upd_ne npl]; exact bA, small1000 (by omega), ?_⟩
        have pw : p ≠ w := fun z => wA.some (by rw [← z]; exact np)
        have off : ∀ {v' : V} {d : PyData}, noL d = true → Dt (Nw w) HA v' d → Dt Fz (upd (upd HA p (.tup [.str x, fv, fv, v])) l (.lst (us ++ [.ref p]))) v' d := fun n t => (nl_off bA n t).move fun a o f e => ⟨f, by rw [upd_ne f.2, upd_ne (ne_of_none e np)]; exact e⟩
        have nr : Dt Fz (upd (upd HA p (.tup [.str x, fv, fv, v])) l (.lst (us ++ [.ref p]))) (.ref p) (.tuple [.str x, a.d, a.d, .tuple es]) :=
          .tup ⟨pw, npl.symm⟩ (by rw [upd_ne npl.symm]; exact upd_same) (.cons (.str _) (.cons (off (nl_kd _) (hfT.kw (k9.trans kA))) (.cons (off (nl_kd _) (hbT.kw (k9.trans kA))) (.cons (off (nl_prs me) tv) .nil))))
        have old : DtA Fz (upd (upd HA p (.tup [.str x, fv, fv, v])) l (.lst (us ++ [.ref p]))) us ds := dt.move fun a o f e => ⟨f, by
          have e2 := kx a o f.1 e
          rw [upd_ne f.2, upd_ne (ne_of_none e2 np)]; exact e2⟩
        refine ⟨us ++ [.ref p], ds ++ [.tuple [.str x, a.d, a.d, .tuple es]], _, _, _, cA, rfl, ?_, upd_same, old.append (.cons nr .nil), fun z hz => ?_, by rw [List.length_append, len]; rfl, (wA.same (Same.new np)).off lw, by omega⟩
        · exact fun a o n e => by
            have e2 := kx a o n (k3 a o n e)
            rw [upd_ne (ne_of_none e nl), upd_ne (ne_of_none e2 np)]
            exact e2
        · rcases List.mem_append.mp hz with h | h
          · exact rw' z h
          · rw [List.mem_singleton.mp h]
            exact ⟨x, a, a, es, rfl, hx x (List.mem_of_getElem? hx'), acl, anf, bcl, bnf, by omega, by omega, me, le⟩
      · skip
        refine ⟨_, rfl, _, rfl, _, rfl, _, _, rfl, rfl, w, 3, c6, rfl, w6, by omega, by decide, by decide, fun r' c7 H7 r'0 r'3 k7 w7 g7 => ?_⟩
        obtain ⟨n', rfl⟩ := Int.eq_ofNat_of_zero_le r'0
        have cn' := ck_mono (show n' ≤ 2 by omega)
        refine ⟨n', by omega, w, c7, rfl, w7, by omega, fun bv b c8 H8 hb bd bcl bnf k8 w8 g8 => ?_⟩
        have kT := k36.trans (k7.trans k8)
        have wT := w8
        have hfT := hf.kw (k6.trans (k7.trans k8))
        have hbT := hb
        refine ⟨_, rfl, .inl ⟨rfl, _, SqL.of (kT _ _ lw b1)⟩, _, rfl, _, rfl, _, rfl, _, rfl, _, rfl, _, rfl, _, rfl, w, 7, c8, rfl, wT, by omega, by decide, by decide, fun m c9 H9 m0 m7 k9 w9 g9 => ?_⟩
        refine ⟨w, fv, bv, m, c9, a, b, rfl, hfT.kw k9, hbT.kw k9, acl, anf, bcl, bnf, by omega, by omega, m0, by omega, w9, by omega, fun v es cA HA tv me le kA wA gA => ?_⟩
        refine ⟨big _ (by show (4 : Nat) ≤ 1000; decide), fun p np => ?_⟩
        have kx : Kw w H3 HA := kT.trans (k9.trans kA)
        have bA := kx _ _ lw b1
        have npl : l ≠ p := ne_of_none bA np
        refine ⟨l, us, _, rfl, rfl, by rw [upd_ne npl]; exact bA, small1000 (by omega), ?_⟩
        have pw : p ≠ w := fun z => wA.some (by rw [← z]; exact np)
        have off : ∀ {v' : V} {d : PyData}, noL d = true → Dt (Nw w) HA v' d → Dt Fz (upd (upd HA p (.tup [.str x, fv, bv, v])) l (.lst (us ++ [.ref p]))) v' d := fun n t => (nl_off bA n t).move fun a o f e => ⟨f, by rw [upd_ne f.2, upd_ne (ne_of_none e np)]; exact e⟩
        have nr : Dt Fz (upd (upd HA p (.tup [.str x, fv, bv, v])) l (.lst (us ++ [.ref p]))) (.ref p) (.tuple [.str x, a.d, b.d, .tuple es]) :=
          .tup ⟨pw, npl.symm⟩ (by rw [upd_ne npl.symm]; exact upd_same) (.cons (.str _) (.cons (off (nl_kd _) (hfT.kw (k9.trans kA))) (.cons (off (nl_kd _) (hbT.kw (k9.trans kA))) (.cons (off (nl_prs me) tv) .nil))))
        have old : DtA Fz (upd (upd HA p (.tup [.str x, fv, bv, v])) l (.lst (us ++ [.ref p]))) us ds := dt.move fun a o f e => ⟨f, by
          have e2 := kx a o f.1 e
          rw [upd_ne f.2, upd_ne (ne_of_none e2 np)]; exact e2⟩
        refine ⟨us ++ [.ref p], ds ++ [.tuple [.str x, a.d, b.d, .tuple es]], _, _, _, cA, rfl, ?_, upd_same, old.append (.cons nr .nil), fun z hz => ?_, by rw [List.length_append, len]; rfl, (wA.same (Same.new np)).off lw, by omega⟩
        · exact fun a o n e => by
            have e2 := kx a o n (k3 a o n e)
            rw [upd_ne (ne_of_none e nl), upd_ne (ne_of_none e2 np)]
            exact e2
        · rcases List.mem_append.mp hz with h | h
          · exact rw' z h
          · rw [List.mem_singleton.mp h]
            exact ⟨x, a, b, es, rfl, hx x (List.mem_of_getElem? hx'), acl, anf, bcl, bnf, by omega, by omega, me, le⟩
    · rintro σ H3 ⟨us, ds, t1, t2, t3, c3, rfl, k3, b1, dt, rw', len, w3, g3⟩
      have ld := dt.length
      rw [List.length_map] at len
      have lim : ((ns.length : Nat) : Int) * 6000 ≤ 3 * 6000 := Int.mul_le_mul_of_nonneg_right (by omega) (by omega)
      rw [List.length_map] at g3
      refine ⟨_, rfl, l, us, rfl, .inl ⟨SqL.of b1, fun p hp => ?_⟩⟩
      exact q _ ds c3 _ (.tup (w3.ne hp).symm upd_same ((dt.move fun a o f e => ⟨f.1, e⟩).keep (Same.new hp))) rw' (by omega) (by omega) (k3.trans (Kw.new hp)) (w3.same (Same.new hp)) (by omega)
end
end N3
namespace N3
open PySem PySem.Spec PyProof.Rows L2 KB
section
variable {K : PySem.W.Frag} {mg : Str → Option Value} {base : Heap} {P : Program} {w : World}
theorem odd_sz3 : (oddL3.all fun d => decide (sz d ≤ 100)) = true := by decide +kernel
theorem odd_ib3 : (oddL3.all fun d => ibB 100 d) = true := by decide +kernel
structure Bs (B : Nat) (d e : PyData) : Prop where
  ln : sz e ≤ 2 * sz d + 600
  ib : IB (B + 5) e
theorem bs_odd {B : Nat} (hB : bg ≤ B) {d e : PyData} (h : e ∈ oddL3) : Bs B d e :=
  ⟨Nat.le_trans (of_decide_eq_true (List.all_eq_true.mp odd_sz3 e h)) (by omega), (ibB_ok (List.all_eq_true.mp odd_ib3 e h)).mono (Nat.le_trans (bg_big (by decide)) (by omega))⟩
theorem bs_row {B : Nat} {ds es : List PyData} (hb : IB B (.tuple ds)) (h : ∀ x ∈ es, x ∈ ds ∨ IB (B + 5) x) (hz : szA es ≤ 2 * szA ds + 600) : Bs B (.tuple ds) (.tuple es) := by
  refine ⟨?_, ib_tup.mpr fun x hx => (h x hx).elim (fun m => (ib_tup.mp hb x m).mono (by omega)) id⟩
  have z1 := sz_tup ds
  have z2 := sz_tup es
  omega
def TsR (t : TT) (σ : L2.St) (H : Hp) (R : Bool → Hp → Prop) : Prop := ∀ Q : Bool → Hp → Prop, (∀ b H1, R b H1 → Q b H1) → t σ H Q
theorem seq_ifR {t : TT} {σ : L2.St} {H : Hp} {R : Bool → Hp → Prop} {A B R' : TS} {D : Ends} (h : TsR t σ H R) (h1 : ∀ H1, R true H1 → A { D with nx := R' D } σ H1) (h2 : ∀ H1, R false H1 → B { D with nx := R' D } σ H1) : tSeq (tIfS t A B) R' D σ H := h _ fun b H1 r => by
  cases b with
  | true => exact ifT rfl (h1 H1 r)
  | false => exact ifF rfl (h2 H1 r)
def spBn (n : Nat) : Sp := fun vs H Q _ => ∃ (w : Addr) (v : V) (d : PyData) (B : Nat) (c : Int), vs = [.ref w, v, .int n] ∧ Dt (Nw w) H v d ∧ sz d ≤ 1500000 ∧ IB B d ∧ bg ≤ B ∧ B ≤ bg + 100 ∧ Wl H w c ∧ c + (3 * n + 50) < 2 ^ 60 ∧ n ≤ 6 ∧
  ∀ (v' : V) (e : PyData) (c' : Int) (H' : Hp), Dt (Nw w) H' v' e → Bs B d e → Kw w H H' → Wl H' w c' → c' ≤ c + (3 * n + 4) → Q v' H'
abbrev nBent3 : List Str := ["_law_well_here", "_law_thing_here", "_law_left", "_law_spot", "_law_way"]
theorem sc_nBent3 : FnScope nBent3 ["_law_well_here", "_law_thing_here", "_law_left"] (defScope (top 55)) := ⟨rfl, rfl, rfl, by decide +kernel, rfl, by decide +kernel, by decide +kernel⟩
theorem bent_body (n : Nat) {f : Addr} {fd : FuncData} {spR : Sp} (F : FnP K "_law_bent" (top 55) f fd) (T : Bl K mg) (hDip : Has P w K mg base "_law_dip" ["_law_well_here", "_law_top"] 1 spDraw) (hOdd : Has P w K mg base "_law_odd" ["_law_well_here"] 3 (spOdd oddL3))
    (gR : mg "_law_bent" = some (.ref f)) (bR : Binds K fd ["_law_well_here", "_law_thing_here", "_law_left"] []) (GR : FnOk P w K mg base CX0 (3 + n) f fd ["_law_well_here", "_law_thing_here", "_law_left"] spR)
    (hR : ∀ m, n = m + 1 → ∀ vs H Q, spBn m vs H Q E0 → spR vs H Q E0) : FnOk P w K mg base CX0 (3 + n + 1) f fd ["_law_well_here", "_law_thing_here", "_law_left"] (spBn n) := by
  obtain ⟨fDip, fdDip, kDip, gDip, bDip, GDip⟩ := hDip
  obtain ⟨fOdd, fdOdd, kOdd, gOdd, bOdd, GOdd⟩ := hOdd
  refine F.ok sc_nBent3 (fun vs H Q E h => ?_) (fun cdv A outer s H vs Q E hr h => ?_)
  · obtain ⟨w, v, d, B, c, rfl, _⟩ := h
    rfl
  · obtain ⟨w, v, d, B, c, rfl, hd, hsz, hib, hB0, hB1, hw, hc, n6, q⟩ := h
    have sc := sc_nBent3
    have hrDip : Room 1 _ := hr.mono (by omega)
    have hrOdd : Room 3 _ := hr.mono (by omega)
    have hrR : Room (3 + n) _ := hr
    refine ⟨_, PSs.nox (pss_cons (ps_if (PW.pt (pw_and (pt_val (pe_callB call_isi (by rfl) T.isinstance (by decide +kernel) (pa_cons (pv 1) (pa_cons (pe_bltn (v := .ty "tuple") (by rfl) T.tuple (by decide +kernel) rfl) pa_nil)))) (pw_and (pt_cmpR (op_neE hr.units0) (pv 1) (pe_tup pa_nil) (nomark _)) (pw_and (pt_cmpR op_gt (pv 2) pe_int (nomark _)) (pw_and1 (pt_cmpR op_gt (pe_call GDip hrDip rfl gDip kDip bDip .nil pass0 (pa_cons (pv 0) (pa_cons pe_int pa_nil))) pe_int (nomark _))))))) (pss_cons (ps_set (i := 3) sc.nd rfl (Or.inl rfl) (pe_call GDip hrDip rfl gDip kDip bDip .nil pass0 (pa_cons (pv 0) (pa_cons (pe_callB call_len (by rfl) T.len (by decide +kernel) (pa_cons (pv 1) pa_nil)) pa_nil)))) (pss_one (ps_ret (pe_op op_catA (pe_op op_catA (pe_slice sl_tupA (pv 1) po_none (po_some (pv 3))) (pe_tup (pa_cons (pe_call GR hrR rfl gR F.kp bR .nil pass0 (pa_cons (pv 0) (pa_cons (pe_ix ix_tup (pv 1) (pv 3) (fun _ _ => rfl)) (pa_cons (pe_op op_sub (pv 2) pe_int) pa_nil)))) pa_nil))) (pe_slice sl_tupA (pv 1) (po_some (pe_op op_add (pv 3) pe_int)) po_none))))) pss_nil) (pss_cons (ps_set (i := 4) sc.nd rfl (Or.inl rfl) (pe_call GDip hrDip rfl gDip kDip bDip .nil pass0 (pa_cons (pv 0) (pa_cons pe_int pa_nil)))) (pss_cons (ps_if (PW.pt (pw_and (pt_val (pe_callB call_isi (by rfl) T.isinstance (by decide +kernel) (pa_cons (pv 1) (pa_cons (pe_bltn (v := .ty "tuple") (by rfl) T.tuple (by decide +kernel) rfl) pa_nil)))) (pw_and (pt_cmpR (op_neE hr.units0) (pv 1) (pe_tup pa_nil) (nomark _)) (pw_and1 (pt_cmpR op_gt (pv 4) pe_int (nomark _)))))) (pss_cons (ps_set (i := 3) sc.nd rfl (Or.inl rfl) (pe_call GDip hrDip rfl gDip kDip bDip .nil pass0 (pa_cons (pv 0) (pa_cons (pe_callB call_len (by rfl) T.len (by decide +kernel) (pa_cons (pv 1) pa_nil)) pa_nil)))) (pss_cons (ps_if (pt_cmpR op_lt (pv 4) pe_int (nomark _)) (pss_one (ps_ret (pe_op op_catA (pe_slice sl_tupA (pv 1) po_none (po_some (pv 3))) (pe_slice sl_tupA (pv 1) (po_some (pe_op op_add (pv 3) pe_int)) po_none)))) pss_nil) (pss_cons (ps_if (pt_cmpR op_lt (pv 4) pe_int (nomark _)) (pss_one (ps_ret (pe_op op_catA (pe_slice sl_tupA (pv 1) po_none (po_some (pe_op op_add (pv 3) pe_int))) (pe_slice sl_tupA (pv 1) (po_some (pv 3)) po_none)))) pss_nil) (pss_one (ps_ret (pe_ifExp (pt_cmpR op_eq (pv 4) pe_int (nomark _)) (pe_revT (pv 1)) (pe_callTy call_list_of (by rfl) T.list (by decide +kernel) (pa_cons (pv 1) pa_nil)))))))) pss_nil) (pss_cons (ps_if (PW.pt (pw_and (pt_val (pe_callB call_isi (by rfl) T.isinstance (by decide +kernel) (pa_cons (pv 1) (pa_cons (pe_bltn (v := .ty "int") (by rfl) T.int (by decide +kernel) rfl) pa_nil)))) (pw_and (pt_not (pt_val (pe_callB call_isi (by rfl) T.isinstance (by decide +kernel) (pa_cons (pv 1) (pa_cons (pe_bltn (v := .ty "bool") (by rfl) T.bool (by decide +kernel) rfl) pa_nil))))) (pw_and1 (pt_cmpR op_gt (pv 4) pe_int (nomark _)))))) (pss_one (ps_ret (pe_op op_sub (pe_op op_add (pv 1) (pv 4)) pe_int))) pss_nil) (pss_one (ps_ret (pe_call GOdd hrOdd rfl gOdd kOdd bOdd .nil pass0 (pa_cons (pv 0) pa_nil)))))))), ?_⟩
    have big : ∀ k : Nat, k ≤ 1000 → k ≤ sizeLine := fun k h => Nat.le_of_lt (small1000 h)
    obtain ⟨ty, tyx, ki, kb, kt, ks⟩ := tyD (K := K) hd
    refine seq_ifR (R := fun b H1 => ∃ c1, Kw w H H1 ∧ Wl H1 w c1 ∧ c1 ≤ c + 1 ∧ (b = true → isTup d = true ∧ (∀ ds, d = .tuple ds → ds ≠ []) ∧ 0 < n)) (fun Q' hq => ?_) (fun H1 r => ?_) (fun H1 r => ?_)
    · refine ⟨_, rfl, _, _, ty, _, _, rfl, .ty _, tyx, kt, _, rfl, ?_⟩
      have nope : ∀ {H1 : Hp} {c1 : Int}, Kw w H H1 → Wl H1 w c1 → c1 ≤ c + 1 → Q' false H1 := fun k w l => hq false _ ⟨_, k, w, l, fun z => nomatch z⟩
      cases it : isTup d with
      | false => exact ifF rfl (nope (Kw.refl w H) hw (by omega))
      | true =>
        obtain ⟨ds, rfl⟩ := isTup_of it
        obtain ⟨a, xs, rfl, fa, ha, ra⟩ := hd.tupI
        refine ifT rfl ⟨_, rfl, (by show 0 ≤ sizeLine; decide), fun e0 ne => ?_⟩
        have sm := @Same.new e0 _ (.tup []) ne
        refine ⟨a, e0, xs, rfl, rfl, SqT.of (sm _ _ ha), SqT.of upd_same, _, rfl, ite2 (fun g => ?_) (fun g => nope (Kw.same sm) (hw.same sm) (by omega))⟩
        refine ⟨_, rfl, _, _, rfl, rfl, _, rfl, ite2 (fun g2 => ?_) (fun g2 => nope (Kw.same sm) (hw.same sm) (by omega))⟩
        refine ⟨_, rfl, w, 5, c, rfl, hw.same sm, by omega, by decide, by decide, fun r c2 H2 r0 r5 k2 w2 l2 => ?_⟩
        refine ⟨_, _, rfl, rfl, _, rfl, hq _ H2 ⟨c2, (Kw.same sm).trans k2, w2, by omega, fun _ => ⟨rfl, fun ds' e => ?_, ?_⟩⟩⟩
        · cases e
          intro z
          subst z
          cases ra
          simp at g
        · have g3 : (0 : Int) < (n : Int) := of_decide_eq_true g2
          omega
    · -- within it
      obtain ⟨c1, k1, w1, l1, hb⟩ := r
      obtain ⟨it, hne, n0⟩ := hb rfl
      (obtain ⟨m, rfl⟩ : ∃ m, n = m + 1 := ⟨n - 1, by omega⟩)
      obtain ⟨ds, rfl⟩ := isTup_of it
      have dn := hne ds rfl
      have dl : ds.length ≠ 0 := fun z => dn (List.length_eq_zero_iff.mp z)
      have hd1 := hd.kw k1
      have lz : 2 * ds.length ≤ szA ds := szA_len ds
      have sz0 := sz_tup ds
      obtain ⟨a, xs, rfl, hxs, lx⟩ := lenD (K := K) hd1
      refine ⟨_, rfl, _, rfl, _, _, rfl, .inr ⟨_, hxs, rfl⟩, w, _, c1, rfl, w1, by omega, by omega, by omega, fun r c2 H2 r0 r1 k2 w2 e2 => ?_⟩
      have hd2 := hd1.kw k2
      obtain ⟨i, rfl⟩ := Int.eq_ofNat_of_zero_le r0
      have il : i < ds.length := by omega
      obtain ⟨di, hdi⟩ : ∃ di, ds[i]? = some di := ⟨_, List.getElem?_eq_getElem il⟩
      have atz := szA_at hdi
      have mem := List.mem_of_getElem? hdi
      refine rep_at (K := K) (i := i) (P := fun e => Bs B di e) (C := c2 + (3 * m + 4)) w2 rfl rfl hd2 (by omega) (by omega) (fun H3 s3 Q' q' => ?_) fun v' e c' H3 pe d3 k3 w3 l3 => ?_
      · refine ⟨_, rfl, _, rfl, _, rfl, ixD (i := i) (hd2.keep s3) hdi fun x dx => ⟨_, rfl, _, _, rfl, rfl, ?_⟩⟩
        refine hR m rfl _ _ _ ⟨w, x, di, B, c2, ?_, dx, by have := szA_mem mem; omega, ib_tup.mp hib di mem, hB0, hB1, w2.same s3, by omega, by omega, fun v' e c' H' t1 t2 t3 t4 t5 => q' v' e c' H' t1 t2 t3 t4 t5⟩
        show [V.ref w, x, V.int (((m + 1 : Nat) : Int) - 1)] = _
        rw [show (((m + 1 : Nat) : Int) - 1) = (m : Int) by omega]
      · refine q v' _ c' H3 d3 (bs_row hib (fun x hx => ?_) ?_) (k1.trans (k2.trans k3)) w3 (by omega)
        · (rcases (List.mem_append.mp hx) with hx | hx)
          · (rcases (List.mem_append.mp hx) with hx | hx)
            · exact .inl (mem_take hx)
            · rw [List.mem_singleton.mp hx]
              exact .inr pe.ib
          · exact .inl (mem_drop hx)
        · rw [szA_app, szA_app, szA_one]
          have := pe.ln
          omega
    · -- here
      obtain ⟨c1, k1, w1, l1, hb⟩ := r
      have hd1 := hd.kw k1
      refine ⟨_, rfl, w, 7, c1, rfl, w1, by omega, by decide, by decide, fun b c2 H2 b0 b1 k2 w2 e2 => ?_⟩
      have hd2 := hd1.kw k2
      have k02 := k1.trans k2
      obtain ⟨ty, tyx, ki, kb, kt, ks⟩ := tyD (K := K) hd2
      dsimp only [gName]
      refine seq_ifR (R := fun b' H3 => Same H2 H3 ∧ (b' = true → isTup d = true ∧ (∀ ds, d = .tuple ds → ds ≠ []))) (fun Q' hq => ?_) (fun H3 r => ?_) (fun H3 r => ?_)
      · refine ⟨_, rfl, _, _, ty, _, _, rfl, .ty _, tyx, kt, _, rfl, ?_⟩
        have nope : ∀ {H1 : Hp}, Same H2 H1 → Q' false H1 := fun k => hq false _ ⟨k, fun z => nomatch z⟩
        cases it : isTup d with
        | false => exact ifF rfl (nope (Same.refl H2))
        | true =>
          obtain ⟨ds, rfl⟩ := isTup_of it
          obtain ⟨a, xs, rfl, fa, ha, ra⟩ := hd2.tupI
          refine ifT rfl ⟨_, rfl, (by show 0 ≤ sizeLine; decide), fun e0 ne => ?_⟩
          have sm := @Same.new e0 _ (.tup []) ne
          refine ⟨a, e0, xs, rfl, rfl, SqT.of (sm _ _ ha), SqT.of upd_same, _, rfl, ite2 (fun g => ?_) (fun g => nope sm)⟩
          refine ⟨_, rfl, _, _, rfl, rfl, _, rfl, hq _ _ ⟨sm, fun _ => ⟨rfl, fun ds' e => ?_⟩⟩⟩
          cases e
          intro z
          subst z
          cases ra
          simp at g
      · obtain ⟨s3, hb'⟩ := r
        obtain ⟨it, hne⟩ := hb' rfl
        obtain ⟨ds, rfl⟩ := isTup_of it
        have dn := hne ds rfl
        have dl : ds.length ≠ 0 := fun z => dn (List.length_eq_zero_iff.mp z)
        have hd3 := hd2.keep s3
        have w3 := w2.same s3
        have k03 := k02.trans (Kw.same s3)
        have lz : 2 * ds.length ≤ szA ds := szA_len ds
        have sz0 := sz_tup ds
        obtain ⟨a, xs, rfl, hxs, lx⟩ := lenD (K := K) hd3
        refine ⟨_, rfl, _, rfl, _, _, rfl, .inr ⟨_, hxs, rfl⟩, w, _, c2, rfl, w3, by omega, by omega, by omega, fun r c4 H4 r0 r1 k4 w4 e4 => ?_⟩
        have hd4 := hd3.kw k4
        have k04 := k03.trans k4
        obtain ⟨i, rfl⟩ := Int.eq_ofNat_of_zero_le r0
        have il : i < ds.length := by omega
        have hi : i ≤ ds.length := by omega
        have hm : ds.length ≤ 4000000 := by omega
        have rows : ∀ {es : List PyData}, (∀ x ∈ es, x ∈ ds) → szA es ≤ 2 * szA ds → Bs B (.tuple ds) (.tuple es) := fun h1 h2 => bs_row hib (fun x hx => .inl (h1 x hx)) (by omega)
        obtain ⟨di, hdi⟩ : ∃ di, ds[i]? = some di := ⟨_, List.getElem?_eq_getElem il⟩
        have spl := szA_split ds i
        have atz := szA_at hdi
        refine seq_if (tst_lt (m := b) rfl) (fun g => ?_) (fun g => ?_)
        · refine del_at (K := K) (i := i) w4 rfl rfl hd4 hi hm fun v' H5 d5 s5 => ?_
          exact q v' _ c4 H5 d5 (rows (fun x hx => (List.mem_append.mp hx).elim mem_take mem_drop) (by rw [szA_app]; omega)) (k04.trans (Kw.same s5)) (w4.same s5) (by omega)
        refine seq_if (tst_lt (m := b) rfl) (fun g2 => ?_) (fun g2 => ?_)
        · refine ⟨_, rfl, _, rfl, _, _, rfl, rfl, _, rfl, takeD (i := i + 1) (nwF w4) hd4 (by omega) fun v1 H5 s5 d5 => ?_⟩
          have w5 := w4.same s5
          refine slR (K := K) (i := i) w5 rfl rfl (hd4.keep s5) fun v2 H6 s6 d6 => ?_
          have w6 := w5.same s6
          refine catD (nwF w6) (d5.keep s6) d6 (by rw [List.length_take, List.length_drop]; omega) fun v3 H7 s7 d7 => ?_
          refine q v3 _ c4 H7 d7 (rows (fun x hx => (List.mem_append.mp hx).elim mem_take mem_drop) ?_) (k04.trans (Kw.same (s5.trans (s6.trans s7)))) (w6.same s7) (by omega)
          rw [szA_app, take_snoc hdi, szA_app, szA_one]
          omega
        · refine tst_eq (m := b) (n := 5) (i := 4) rfl _ ?_
          obtain ⟨t, ys, et, ft, ht, rt⟩ := hd4.tupI
          cases et
          by_cases g7 : b = 5
          · refine ifT (decide_eq_true g7) ⟨_, rfl, _, ys, rfl, SqT.of ht, fun p np => ?_⟩
            exact q (.ref p) (.tuple ds.reverse) c4 _ (layD (nwF w4) np rt.reverse) (rows (fun x hx => List.mem_reverse.mp hx) (by rw [szA_rev]; omega)) (k04.trans (Kw.new np)) (w4.same (Same.new np)) (by omega)
          · refine ifF (decide_eq_false g7) ⟨_, rfl, _, ys, rfl, .inr (SqT.of ht), fun p np => ?_⟩
            refine q (.ref p) (.list ds) c4 _ (.lst (nwF w4 p np) upd_same (rt.keep (Same.new np))) ⟨?_, ib_lst.mpr fun x hx => (ib_tup.mp hib x hx).mono (by omega)⟩ (k04.trans (Kw.new np)) (w4.same (Same.new np)) (by omega)
            have z2 : sz (.list ds) = szA ds + 3 := by rw [sz]
            omega
      · obtain ⟨s3, _⟩ := r
        have hd3 := hd2.keep s3
        have w3 := w2.same s3
        have k03 := k02.trans (Kw.same s3)
        obtain ⟨ty, tyx, ki, kb, kt, ks⟩ := tyD (K := K) hd3
        dsimp only [tNext]
        refine seq_if (tst_and (fun Q q => ⟨_, rfl, _, _, ty, _, _, rfl, .ty _, tyx, ki, _, rfl, q⟩) fun _ => tst_and (tst_not fun Q q => ⟨_, rfl, _, _, ty, _, _, rfl, .ty _, tyx, kb, _, rfl, q⟩) fun _ => (fun Q q => ⟨_, rfl, _, _, rfl, rfl, _, rfl, q⟩ : Tst _ _ H3 (decide (1 < b)))) (fun g => ?_) (fun g => ?_)
        · simp only [Bool.and_eq_true, decide_eq_true_eq] at g
          obtain ⟨g1, g2, g3⟩ := g
          obtain ⟨x, rfl⟩ : ∃ x, d = .int x := by
            cases d with
            | int x => exact ⟨x, rfl⟩
            | bool x => cases g2
            | _ => cases g1
          have ev := hd3.intI
          subst ev
          rw [IB] at hib
          have hz : (x + b - 4).natAbs ≤ B + 5 := by omega
          refine ⟨_, rfl, _, rfl, _, _, rfl, rfl, _, _, rfl, rfl, ?_⟩
          exact q _ (.int (x + b - 4)) c2 H3 (.int _) ⟨Nat.le_trans (int_long (c := 1000) (by decide) (by omega)) (by omega), by rw [IB]; exact hz⟩ k03 w3 (by omega)
        · refine ⟨_, rfl, w, c2, rfl, w3, by omega, fun i v' e c4 H4 he de k4 w4 e4 => ?_⟩
          exact q v' e c4 H4 (de.nw w3.some) (bs_odd hB0 (List.mem_of_getElem? he)) (k03.trans k4) w4 (by omega)
theorem ok_bent {f : Addr} {fd : FuncData} (F : FnP K "_law_bent" (top 55) f fd) (T : Bl K mg) (hDip : Has P w K mg base "_law_dip" ["_law_well_here", "_law_top"] 1 spDraw) (hOdd : Has P w K mg base "_law_odd" ["_law_well_here"] 3 (spOdd oddL3))
    (gR : mg "_law_bent" = some (.ref f)) (bR : Binds K fd ["_law_well_here", "_law_thing_here", "_law_left"] []) : ∀ n : Nat, FnOk P w K mg base CX0 (3 + n + 1) f fd ["_law_well_here", "_law_thing_here", "_law_left"] (spBn n)
  | 0 => bent_body 0 (spR := fun _ _ _ _ => False) F T hDip hOdd gR bR ⟨fun _ _ _ _ h => h.elim, fun _ _ _ _ _ _ _ _ _ _ _ _ _ h => h.elim⟩ fun m e => by cases e
  | n + 1 => bent_body (n + 1) F T hDip hOdd gR bR (ok_bent F T hDip hOdd gR bR n) fun m e => by cases e; exact fun _ _ _ h => h
end
end N3
namespace N3
open PySem PySem.Spec PyProof.Rows L2 KB
section
variable {K : PySem.W.Frag} {mg : Str → Option Value} {base : Heap} {P : Program} {w : World}
def spWh : Sp := fun vs H Q _ => ∃ (F : Addr → Prop) (v : V) (d : PyData), vs = [v] ∧ Dt F H v d ∧ Q (.bl (isV .num d)) H
abbrev nWhole : List Str := ["_law_thing_here"]
theorem sc_nWhole : FnScope nWhole ["_law_thing_here"] (defScope (top 56)) := ⟨rfl, rfl, rfl, by decide +kernel, rfl, by decide +kernel, by decide +kernel⟩
theorem ok_whole {f : Addr} {fd : FuncData} (F : FnP K "_law_is_whole" (top 56) f fd) (T : Bl K mg) : FnOk P w K mg base CX0 1 f fd ["_law_thing_here"] spWh := by
  refine F.ok sc_nWhole (fun vs H Q E h => ?_) (fun cdv A outer s H vs Q E hr h => ?_)
  · obtain ⟨F, v, d, rfl, _⟩ := h
    rfl
  · obtain ⟨Fa, v, d, rfl, hd, q⟩ := h
    have sc := sc_nWhole
    refine ⟨_, PSs.nox (pss_one (ps_ret (pe_and (pe_callB call_isi (by rfl) T.isinstance (by decide +kernel) (pa_cons (pv 0) (pa_cons (pe_bltn (v := .ty "int") (by rfl) T.int (by decide +kernel) rfl) pa_nil))) (pe_one (pe_not (pe_callB call_isi (by rfl) T.isinstance (by decide +kernel) (pa_cons (pv 0) (pa_cons (pe_bltn (v := .ty "bool") (by rfl) T.bool (by decide +kernel) rfl) pa_nil)))))))), ?_⟩
    obtain ⟨ty, tyx, k1, k2, k3, k4⟩ := tyD (K := K) hd
    refine ⟨_, rfl, _, _, ty, _, _, rfl, .ty _, tyx, k1, _, rfl, ?_⟩
    cases hd with
    | int i => exact ifT rfl ⟨_, rfl, _, _, ty, _, _, rfl, .ty _, tyx, k2, _, rfl, q⟩
    | bl b => exact ifT rfl ⟨_, rfl, _, _, ty, _, _, rfl, .ty _, tyx, k2, _, rfl, q⟩
    | non => exact ifF rfl q
    | str x => exact ifF rfl q
    | lst f h r => exact ifF rfl q
    | tup f h r => exact ifF rfl q
    | emp f h => exact ifF rfl q
def one1 (f : PyData → Bool) : List PyData → Bool
  | [x] => f x
  | _ => false
def two2 (f : PyData → Bool) : List PyData → Bool
  | [x, y] => f x && f y
  | _ => false
def clN : Nat → PyData → Bool
  | n + 1, .tuple (.str s :: ds) =>
    if s = "unit" ∨ s = "num" then ds.isEmpty
    else if s = "list" then one1 (clN n) ds
    else if s = "pair" ∨ s = "either" then two2 (clN n) ds else false
  | _, _ => false
theorem clN_no {n : Nat} {d : PyData} (h : isTup d = false) : clN n d = false := by
  cases n <;> cases d <;> first | rfl | cases h
theorem clN_hd {n : Nat} {d : PyData} {ds : List PyData} (h : isStr d = false) : clN n (.tuple (d :: ds)) = false := by
  cases n <;> cases d <;> first | rfl | cases h
def spIcl (n : Nat) : Sp := fun vs H Q _ => ∃ (F : Addr → Prop) (v : V) (d : PyData), vs = [v, .int n] ∧ Dt F H v d ∧ ∀ H', Same H H' → Q (.bl (clN n d)) H'
theorem isStr_of {d : PyData} (h : isStr d = true) : ∃ x, d = .str x := by
  cases d <;> first | exact ⟨_, rfl⟩ | cases h
abbrev nIsc : List Str := ["_law_thing_here", "_law_left"]
theorem sc_nIsc : FnScope nIsc ["_law_thing_here", "_law_left"] (defScope (top 57)) := ⟨rfl, rfl, rfl, by decide +kernel, rfl, by decide +kernel, by decide +kernel⟩
theorem isc_body (n : Nat) {f : Addr} {fd : FuncData} {spR : Sp} (F : FnP K "_law_is_closed" (top 57) f fd) (T : Bl K mg)
    (gR : mg "_law_is_closed" = some (.ref f)) (bR : Binds K fd ["_law_thing_here", "_law_left"] []) (GR : FnOk P w K mg base CX0 n f fd ["_law_thing_here", "_law_left"] spR)
    (hR : ∀ m, n = m + 1 → ∀ vs H Q, spIcl m vs H Q E0 → spR vs H Q E0) : FnOk P w K mg base CX0 (n + 1) f fd ["_law_thing_here", "_law_left"] (spIcl n) := by
  refine F.ok sc_nIsc (fun vs H Q E h => ?_) (fun cdv A outer s H vs Q E hr h => ?_)
  · obtain ⟨F, v, d, rfl, _⟩ := h
    rfl
  · obtain ⟨Fa, v, d, rfl, hd, q⟩ := h
    have sc := sc_nIsc
    have hrR : Room n _ := hr
    refine ⟨_, PSs.nox (pss_cons (ps_if (PW.pt (pw_or (pt_not (pt_val (pe_callB call_isi (by rfl) T.isinstance (by decide +kernel) (pa_cons (pv 0) (pa_cons (pe_bltn (v := .ty "tuple") (by rfl) T.tuple (by decide +kernel) rfl) pa_nil))))) (pw_or (pt_cmpR op_eq (pe_callB call_len (by rfl) T.len (by decide +kernel) (pa_cons (pv 0) pa_nil)) pe_int (nomark _)) (pw_or (pt_not (pt_val (pe_callB call_isi (by rfl) T.isinstance (by decide +kernel) (pa_cons (pe_ix ix_tup (pv 0) pe_int (fun _ _ => rfl)) (pa_cons (pe_bltn (v := .ty "str") (by rfl) T.str (by decide +kernel) rfl) pa_nil))))) (pw_or1 (pt_cmpR op_lt (pv 1) pe_int (nomark _))))))) (pss_one (ps_ret pe_bl)) pss_nil) (pss_cons (ps_if (pt_cmpR op_in_seq (pe_ix ix_tup (pv 0) pe_int (fun _ _ => rfl)) (pe_tup (pa_cons pe_str (pa_cons pe_str pa_nil))) (by rfl)) (pss_one (ps_ret (pe_cmpR op_eq (pe_callB call_len (by rfl) T.len (by decide +kernel) (pa_cons (pv 0) pa_nil)) pe_int (nomark _)))) pss_nil) (pss_cons (ps_if (pt_cmpR op_eq (pe_ix ix_tup (pv 0) pe_int (fun _ _ => rfl)) pe_str (nomark _)) (pss_one (ps_ret (pe_and (pe_cmpR op_eq (pe_callB call_len (by rfl) T.len (by decide +kernel) (pa_cons (pv 0) pa_nil)) pe_int (nomark _)) (pe_one (pe_call GR hrR rfl gR F.kp bR .nil pass0 (pa_cons (pe_ix ix_tup (pv 0) pe_int (fun _ _ => rfl)) (pa_cons (pe_op op_sub (pv 1) pe_int) pa_nil))))))) pss_nil) (pss_cons (ps_if (PW.pt (pw_or (pt_cmpR op_notIn_seq (pe_ix ix_tup (pv 0) pe_int (fun _ _ => rfl)) (pe_tup (pa_cons pe_str (pa_cons pe_str pa_nil))) (by rfl)) (pw_or1 (pt_cmpR op_ne (pe_callB call_len (by rfl) T.len (by decide +kernel) (pa_cons (pv 0) pa_nil)) pe_int (nomark _))))) (pss_one (ps_ret pe_bl)) pss_nil) (pss_one (ps_ret (pe_and (pe_call GR hrR rfl gR F.kp bR .nil pass0 (pa_cons (pe_ix ix_tup (pv 0) pe_int (fun _ _ => rfl)) (pa_cons (pe_op op_sub (pv 1) pe_int) pa_nil))) (pe_one (pe_call GR hrR rfl gR F.kp bR .nil pass0 (pa_cons (pe_ix ix_tup (pv 0) pe_int (fun _ _ => rfl)) (pa_cons (pe_op op_sub (pv 1) pe_int) pa_nil))))))))))), ?_⟩
    have big : ∀ k : Nat, k ≤ 1000 → k ≤ sizeLine := fun k h => Nat.le_of_lt (small1000 h)
    have no : ∀ {x y : Str}, x ≠ y → decide (V.str x = V.str y) = false := fun h => decide_eq_false fun z => h (V.str.inj z)
    obtain ⟨ty, tyx, k1, k2, k3, k4⟩ := tyD (K := K) hd
    refine ⟨_, rfl, _, _, ty, _, _, rfl, .ty _, tyx, k3, _, rfl, ?_⟩
    cases it : isTup d with
    | false =>
      refine ifT rfl ?_
      have := q H (Same.refl H)
      rw [clN_no it] at this
      exact this
    | true =>
    obtain ⟨ds, rfl⟩ := isTup_of it
    refine ifF rfl ?_
    obtain ⟨a, xs, rfl, fa, ha, ra⟩ := hd.tupI
    refine ⟨_, rfl, _, _, rfl, .inr ⟨_, SqT.of ha, rfl⟩, rfl, _, rfl, ?_⟩
    cases ra with
    | nil =>
      refine ifT rfl ?_
      have := q H (Same.refl H)
      have e : clN n (.tuple []) = false := by cases n <;> rfl
      rw [e] at this
      exact this
    | @cons v0 ys d0 ds h0 ra =>
    have l0 := ra.length
    refine ifF (decide_eq_false fun z => by
      have := V.int.inj z
      rw [List.length_cons] at this
      omega) ?_
    obtain ⟨ty0, tyx0, _, _, _, k40⟩ := tyD (K := K) h0
    refine ⟨_, rfl, a, _, 0, _, rfl, rfl, SqT.of ha, atI_nat (j := 0) rfl, _, _, ty0, _, _, rfl, .ty _, tyx0, k40, _, rfl, ?_⟩
    cases is0 : isStr d0 with
    | false =>
      refine ifT rfl ?_
      have := q H (Same.refl H)
      rw [clN_hd is0] at this
      exact this
    | true =>
    refine ifF rfl ?_
    obtain ⟨x, rfl⟩ := isStr_of is0
    have e0 := h0.strI
    subst e0
    refine ⟨_, rfl, _, _, rfl, rfl, _, rfl, ite2 (fun g => ?_) (fun g => ?_)⟩
    · have gn : (n : Int) < 1 := of_decide_eq_true g
      obtain rfl : n = 0 := by omega
      exact q H (Same.refl H)
    have gn : ¬ (n : Int) < 1 := fun z => g (decide_eq_true z)
    (obtain ⟨m, rfl⟩ : ∃ m, n = m + 1 := ⟨n - 1, by omega⟩)
    have em : (((m + 1 : Nat) : Int) - 1) = (m : Int) := by omega
    have dlen : ∀ z : Nat, decide (V.int (((V.str x :: ys).length : Nat) : Int) = V.int (z : Int)) = decide (ds.length + 1 = z) := fun z => by
      rw [List.length_cons, l0]
      by_cases g : ds.length + 1 = z
      · rw [decide_eq_true g, decide_eq_true (by rw [g])]
      · rw [decide_eq_false g, decide_eq_false fun y => g (by have := V.int.inj y; omega)]
    refine ⟨_, rfl, a, _, 0, _, rfl, rfl, SqT.of ha, atI_nat (j := 0) rfl, big _ (by show (2 : Nat) ≤ 1000; decide), fun t nt => ?_⟩
    have sm := @Same.new t _ (.tup [.str "unit", .str "num"]) nt
    refine ⟨t, _, rfl, .inr (SqT.of upd_same), rfl, flat_strs ["unit", "num"], _, rfl, ?_⟩
    replace q : ∀ H', Same (upd H t (.tup [.str "unit", .str "num"])) H' → Q (.bl (clN (m + 1) (.tuple (.str x :: ds)))) H' := fun H' s => q H' (sm.trans s)
    replace ha := sm _ _ ha
    replace ra := ra.keep sm
    generalize upd H t (.tup [.str "unit", .str "num"]) = H at q ha ra ⊢
    have inw : ∀ u v : Str, inV (.str x) [V.str u, V.str v] = decide (x = u ∨ x = v) := fun u v => by
      have e := inV_str x [u, v]
      rw [show [V.str u, V.str v] = [u, v].map V.str from rfl, e]
      rw [Bool.eq_iff_iff, contains_two]
      simp
    rw [inw]
    by_cases g1 : x = "unit" ∨ x = "num"
    · refine ifT (decide_eq_true g1) ⟨_, rfl, _, _, rfl, .inr ⟨_, SqT.of ha, rfl⟩, rfl, ?_⟩
      have := q H (Same.refl H)
      have e : clN (m + 1) (.tuple (.str x :: ds)) = ds.isEmpty := by
        show (if x = "unit" ∨ x = "num" then ds.isEmpty else _) = _
        rw [if_pos g1]
      have e2 := dlen 1
      have e3 : decide (ds.length + 1 = 1) = ds.isEmpty := by cases ds <;> simp
      rw [e, ← e3, ← e2] at this
      exact this
    refine ifF (decide_eq_false g1) ?_
    refine ⟨_, rfl, a, _, 0, _, rfl, rfl, SqT.of ha, atI_nat (j := 0) rfl, rfl, _, rfl, ite2 (fun g2 => ?_) (fun g2 => ?_)⟩
    · have ex : x = "list" := V.str.inj (of_decide_eq_true g2)
      have e : clN (m + 1) (.tuple (.str x :: ds)) = one1 (clN m) ds := by
        show (if x = "unit" ∨ x = "num" then ds.isEmpty else if x = "list" then _ else _) = _
        rw [if_neg g1, if_pos ex]
      rw [e] at q
      refine ⟨_, rfl, _, _, rfl, .inr ⟨_, SqT.of ha, rfl⟩, rfl, _, rfl, ?_⟩
      have e2 := dlen 2
      match ds, ra, l0, e2, q with
      | [y], ra, l0, e2, q =>
        obtain ⟨vy, rfl, ty⟩ := ra.one
        refine ifT rfl ⟨_, rfl, a, _, 1, _, rfl, rfl, SqT.of ha, rfl, _, rfl, _, _, rfl, rfl, ?_⟩
        exact hR m rfl _ _ _ ⟨Fa, vy, y, by show [vy, V.int (((m + 1 : Nat) : Int) - 1)] = _; rw [em], ty, q⟩
      | [], ra, l0, e2, q => exact ifF (e2.trans rfl) (q H (Same.refl H))
      | _ :: _ :: r, ra, l0, e2, q =>
        exact ifF (e2.trans (decide_eq_false (by simp))) (q H (Same.refl H))
    have nl : x ≠ "list" := fun z => g2 (decide_eq_true (by rw [z]))
    refine ⟨_, rfl, a, _, 0, _, rfl, rfl, SqT.of ha, atI_nat (j := 0) rfl, big _ (by show (2 : Nat) ≤ 1000; decide), fun t nt => ?_⟩
    have sm := @Same.new t _ (.tup [.str "pair", .str "either"]) nt
    refine ⟨t, _, rfl, .inr (SqT.of upd_same), rfl, flat_strs ["pair", "either"], _, rfl, ?_⟩
    replace q : ∀ H', Same (upd H t (.tup [.str "pair", .str "either"])) H' → Q (.bl (clN (m + 1) (.tuple (.str x :: ds)))) H' := fun H' s => q H' (sm.trans s)
    replace ha := sm _ _ ha
    replace ra := ra.keep sm
    generalize upd H t (.tup [.str "pair", .str "either"]) = H at q ha ra ⊢
    rw [inw]
    have e : clN (m + 1) (.tuple (.str x :: ds)) = (if x = "pair" ∨ x = "either" then two2 (clN m) ds else false) := by
      show (if x = "unit" ∨ x = "num" then ds.isEmpty else if x = "list" then _ else _) = _
      rw [if_neg g1, if_neg nl]
    rw [e] at q
    by_cases g3 : x = "pair" ∨ x = "either"
    · rw [if_pos g3] at q
      refine ifF (by rw [decide_eq_true g3]; rfl) ?_
      refine ⟨_, rfl, _, _, rfl, .inr ⟨_, SqT.of ha, rfl⟩, rfl, _, rfl, ?_⟩
      have e2 := dlen 3
      match ds, ra, l0, e2, q with
      | [y, z], ra, l0, e2, q =>
        obtain ⟨vy, vz, rfl, ty, tz⟩ := ra.two
        refine ifF rfl ⟨_, rfl, a, _, 1, _, rfl, rfl, SqT.of ha, rfl, _, rfl, _, _, rfl, rfl, ?_⟩
        refine hR m rfl _ _ _ ⟨Fa, vy, y, by show [vy, V.int (((m + 1 : Nat) : Int) - 1)] = _; rw [em], ty, fun H1 s1 => ?_⟩
        have q1 := q
        cases cy : clN m y with
        | false =>
          refine ⟨_, rfl, ifF rfl ?_⟩
          have := q1 H1 s1
          rw [show two2 (clN m) [y, z] = (clN m y && clN m z) from rfl, cy] at this
          exact this
        | true =>
          refine ⟨_, rfl, ifT rfl ⟨_, rfl, a, _, 2, _, rfl, rfl, SqT.of (s1 _ _ ha), rfl, _, rfl, _, _, rfl, rfl, ?_⟩⟩
          refine hR m rfl _ _ _ ⟨Fa, vz, z, by show [vz, V.int (((m + 1 : Nat) : Int) - 1)] = _; rw [em], tz.keep s1, fun H2 s2 => ?_⟩
          have := q1 H2 (s1.trans s2)
          rw [show two2 (clN m) [y, z] = (clN m y && clN m z) from rfl, cy, Bool.true_and] at this
          exact this
      | [], ra, l0, e2, q => exact ifT (congrArg not e2) (q H (Same.refl H))
      | [_], ra, l0, e2, q => exact ifT (congrArg not e2) (q H (Same.refl H))
      | _ :: _ :: _ :: r, ra, l0, e2, q => exact ifT (congrArg not (e2.trans (decide_eq_false (by simp)))) (q H (Same.refl H))
    · rw [if_neg g3] at q
      exact ifT (by rw [decide_eq_false g3]; rfl) (q H (Same.refl H))
theorem ok_isc {f : Addr} {fd : FuncData} (F : FnP K "_law_is_closed" (top 57) f fd) (T : Bl K mg)
    (gR : mg "_law_is_closed" = some (.ref f)) (bR : Binds K fd ["_law_thing_here", "_law_left"] []) : ∀ n : Nat, FnOk P w K mg base CX0 (n + 1) f fd ["_law_thing_here", "_law_left"] (spIcl n)
  | 0 => isc_body 0 (spR := fun _ _ _ _ => False) F T gR bR ⟨fun _ _ _ _ h => h.elim, fun _ _ _ _ _ _ _ _ _ _ _ _ _ h => h.elim⟩ fun m e => by cases e
  | n + 1 => isc_body (n + 1) F T gR bR (ok_isc F T gR bR n) fun m e => by cases e; exact fun _ _ _ h => h
end
end N3
namespace N3
open PySem PySem.Spec PyProof.Rows L2 KB
section
variable {K : PySem.W.Frag} {mg : Str → Option Value} {base : Heap} {P : Program} {w : World}
def spHas (n : Nat) : Sp := fun vs H Q _ => ∃ (F : Addr → Prop) (kv tv : V) (k : Kd) (d : PyData), vs = [kv, tv] ∧ Dt F H kv k.d ∧ Dt F H tv d ∧ k.dep ≤ n ∧ k.closed = true ∧ k.noFn = true ∧ sz d ≤ 4000000 ∧ ∀ H', Same H H' → Q (.bl (isV k d)) H'
theorem isV_pairS {a b : Kd} {d : PyData} {ds : List PyData} (h : isStr d = false) : isV (.pair a b) (.tuple (d :: ds)) = false := by
  cases d <;> first | rfl | cases h
theorem isV_eithS {a b : Kd} {d : PyData} {ds : List PyData} (h : isStr d = false) : isV (.eith a b) (.tuple (d :: ds)) = false := by
  cases d <;> first | rfl | cases h
theorem isV_pairL {a b : Kd} {ds : List PyData} (h : ds.length ≠ 3) : isV (.pair a b) (.tuple ds) = false := by
  match ds, h with
  | [], _ => rfl
  | [x], _ => cases x <;> rfl
  | [x, _], _ => cases x <;> rfl
  | [_, _, _], h => exact absurd rfl h
  | x :: _ :: _ :: _ :: _, _ => cases x <;> rfl
theorem isV_eithL {a b : Kd} {ds : List PyData} (h : ds.length ≠ 2) : isV (.eith a b) (.tuple ds) = false := by
  match ds, h with
  | [], _ => rfl
  | [x], _ => cases x <;> rfl
  | [_, _], h => exact absurd rfl h
  | x :: _ :: _ :: _, _ => cases x <;> rfl
abbrev nHas : List Str := ["_law_form_here", "_law_thing_here", "_law_word", "_law_some"]
theorem sc_nHas : FnScope nHas ["_law_form_here", "_law_thing_here"] (defScope (top 58)) := ⟨rfl, rfl, rfl, by decide +kernel, rfl, by decide +kernel, by decide +kernel⟩
theorem has_body (n : Nat) {f : Addr} {fd : FuncData} {spR : Sp} (F : FnP K "_law_has" (top 58) f fd) (T : Bl K mg) (hWhole : Has P w K mg base "_law_is_whole" ["_law_thing_here"] 1 spWh)
    (gR : mg "_law_has" = some (.ref f)) (bR : Binds K fd ["_law_form_here", "_law_thing_here"] []) (GR : FnOk P w K mg base CX0 (1 + n) f fd ["_law_form_here", "_law_thing_here"] spR)
    (hR : ∀ m, n = m + 1 → ∀ vs H Q, spHas m vs H Q E0 → spR vs H Q E0) : FnOk P w K mg base CX0 (1 + n + 1) f fd ["_law_form_here", "_law_thing_here"] (spHas n) := by
  obtain ⟨fWhole, fdWhole, kWhole, gWhole, bWhole, GWhole⟩ := hWhole
  refine F.ok sc_nHas (fun vs H Q E h => ?_) (fun cdv A outer s H vs Q E hr h => ?_)
  · obtain ⟨F, kv, tv, k, d, rfl, _⟩ := h
    rfl
  · obtain ⟨Fa, kv, tv, k, d, rfl, hk, hd, hdp, hcl, hnf, hsz, q⟩ := h
    have sc := sc_nHas
    have hrWhole : Room 1 _ := hr.mono (by omega)
    have hrR : Room (1 + n) _ := hr
    refine ⟨_, PSs.nox (pss_cons (ps_set (i := 2) sc.nd rfl (Or.inl rfl) (pe_ix ix_tup (pv 0) pe_int (fun _ _ => rfl))) (pss_cons (ps_if (pt_cmpR op_eq (pv 2) pe_str (nomark _)) (pss_one (ps_ret (pe_call GWhole hrWhole rfl gWhole kWhole bWhole .nil pass0 (pa_cons (pv 1) pa_nil)))) pss_nil) (pss_cons (ps_if (pt_not (pt_val (pe_callB call_isi (by rfl) T.isinstance (by decide +kernel) (pa_cons (pv 1) (pa_cons (pe_bltn (v := .ty "tuple") (by rfl) T.tuple (by decide +kernel) rfl) pa_nil))))) (pss_one (ps_ret pe_bl)) pss_nil) (pss_cons (ps_if (pt_cmpR op_eq (pv 2) pe_str (nomark _)) (pss_one (ps_ret (pe_cmpR op_eq (pe_callB call_len (by rfl) T.len (by decide +kernel) (pa_cons (pv 1) pa_nil)) pe_int (nomark _)))) pss_nil) (pss_cons (ps_if (pt_cmpR op_eq (pv 2) pe_str (nomark _)) (pss_one (ps_ret (pe_callB (cr_all rfl) (by rfl) T.all (by decide +kernel) (pa_cons (pe_lc (own := [("_law_some", 3)]) (g := gName 3) (tt := tYes) (by rfl) sc.nd (pi_tup (pv 1)) (blkOk_by (own := [("_law_some", 3)]) (N := nHas) (sc := (defScope (top 58))) (by decide +kernel)) (fun _ _ _ _ _ => (pg_name (i := 3) sc.nd rfl (Or.inl rfl))) (fun _ _ _ _ _ => pts_nil) (fun _ _ _ _ _ => (pe_call GR hrR rfl gR F.kp bR .nil pass0 (pa_cons (pe_ix (ixT (K := K) rfl) (pv 0) pe_int (fun _ _ => rfl)) (pa_cons (pv 3) pa_nil))))) pa_nil)))) pss_nil) (pss_cons (ps_if (PW.pt (pw_or (pt_cmpR op_ne (pe_callB call_len (by rfl) T.len (by decide +kernel) (pa_cons (pv 1) pa_nil)) (pe_ifExp (pt_cmpR op_eq (pv 2) pe_str (nomark _)) pe_int pe_int) (nomark _)) (pw_or1 (pt_not (pt_val (pe_callB call_isi (by rfl) T.isinstance (by decide +kernel) (pa_cons (pe_ix ix_tup (pv 1) pe_int (fun _ _ => rfl)) (pa_cons (pe_bltn (v := .ty "str") (by rfl) T.str (by decide +kernel) rfl) pa_nil)))))))) (pss_one (ps_ret pe_bl)) pss_nil) (pss_cons (ps_if (pt_cmpR op_eq (pv 2) pe_str (nomark _)) (pss_one (ps_ret (pe_and (pe_cmpR op_eq (pe_ix ix_tup (pv 1) pe_int (fun _ _ => rfl)) pe_str (nomark _)) (pe_and (pe_call GR hrR rfl gR F.kp bR .nil pass0 (pa_cons (pe_ix ix_tup (pv 0) pe_int (fun _ _ => rfl)) (pa_cons (pe_ix ix_tup (pv 1) pe_int (fun _ _ => rfl)) pa_nil))) (pe_one (pe_call GR hrR rfl gR F.kp bR .nil pass0 (pa_cons (pe_ix ix_tup (pv 0) pe_int (fun _ _ => rfl)) (pa_cons (pe_ix ix_tup (pv 1) pe_int (fun _ _ => rfl)) pa_nil)))))))) pss_nil) (pss_one (ps_ret (pe_and (pe_cmpR op_in_seq (pe_ix ix_tup (pv 1) pe_int (fun _ _ => rfl)) (pe_tup (pa_cons pe_str (pa_cons pe_str pa_nil))) (by rfl)) (pe_one (pe_call GR hrR rfl gR F.kp bR .nil pass0 (pa_cons (pe_ix ix_tup (pv 0) (pe_ifExp (pt_cmpR op_eq (pe_ix ix_tup (pv 1) pe_int (fun _ _ => rfl)) pe_str (nomark _)) pe_int pe_int) (fun _ _ => rfl)) (pa_cons (pe_ix ix_tup (pv 1) pe_int (fun _ _ => rfl)) pa_nil)))))))))))))), ?_⟩
    have big : ∀ k : Nat, k ≤ 1000 → k ≤ sizeLine := fun k h => Nat.le_of_lt (small1000 h)
    have no : ∀ {x y : Str}, x ≠ y → decide (V.str x = V.str y) = false := fun h => decide_eq_false fun z => h (V.str.inj z)
    obtain ⟨a, rfl, fa, ka⟩ := kd_at hk
    obtain ⟨ty, tyx, k1, k2, k3, k4⟩ := tyD (K := K) hd
    have s0 := Same.refl H
    cases k with
    | var x => cases hcl
    | fn x y => cases hnf
    | num =>
      refine ⟨_, rfl, a, _, 0, _, rfl, rfl, SqT.of ka, rfl, _, rfl, rfl, _, rfl, ifT (decide_eq_true rfl) ?_⟩
      exact ⟨_, rfl, Fa, tv, d, rfl, hd, q H s0⟩
    | unit =>
      refine ⟨_, rfl, a, _, 0, _, rfl, rfl, SqT.of ka, rfl, _, rfl, rfl, _, rfl, ifF (no (by decide)) ?_⟩
      refine ⟨_, rfl, _, _, ty, _, _, rfl, .ty _, tyx, k3, _, rfl, ?_⟩
      cases it : isTup d with
      | false => exact ifT rfl (by have := q H s0; rwa [isV_notup (by intro z; cases z) it] at this)
      | true =>
      obtain ⟨ds, rfl⟩ := isTup_of it
      obtain ⟨t, xs, rfl, ft, ht, rt⟩ := hd.tupI
      refine ifF rfl ⟨_, rfl, rfl, _, rfl, ifT (decide_eq_true rfl) ⟨_, rfl, _, _, rfl, .inr ⟨_, SqT.of ht, rfl⟩, rfl, ?_⟩⟩
      have e : decide (V.int ((xs.length : Nat) : Int) = V.int 0) = isV .unit (.tuple ds) := by
        cases rt with
        | nil => rfl
        | cons a r =>
          rw [isV_unit]
          exact decide_eq_false fun z => by
            have := V.int.inj z
            rw [List.length_cons] at this
            omega
      rw [e]
      exact q H s0
    | lst x =>
      obtain ⟨vx, h0, dx⟩ := ka
      obtain ⟨m, rfl⟩ : ∃ m, n = m + 1 := ⟨n - 1, by have : x.dep + 1 ≤ n := hdp; omega⟩
      have hdp' : x.dep + 1 ≤ m + 1 := hdp
      refine ⟨_, rfl, a, _, 0, _, rfl, rfl, SqT.of h0, rfl, _, rfl, rfl, _, rfl, ifF (no (by decide)) ?_⟩
      refine ⟨_, rfl, _, _, ty, _, _, rfl, .ty _, tyx, k3, _, rfl, ?_⟩
      cases it : isTup d with
      | false => exact ifT rfl (by have := q H s0; rwa [isV_notup (by intro z; cases z) it] at this)
      | true =>
      obtain ⟨ds, rfl⟩ := isTup_of it
      obtain ⟨t, xs, rfl, ft, ht, rt⟩ := hd.tupI
      have ll := rt.length
      have lz := szA_len ds
      have sz0 := sz_tup ds
      refine ifF rfl ⟨_, rfl, rfl, _, rfl, ifF (no (by decide)) ⟨_, rfl, rfl, _, rfl, ifT (decide_eq_true rfl) ?_⟩⟩
      refine ⟨_, rfl, t, rfl, ⟨_, SqT.of ht⟩, fun D nD => lc_tup (K := K) (a := t) (xs := xs) (fun i H2 => Same H H2 ∧ H2 D = some (.lst (((ds.take i).map fun z => isV x z).map V.bl))) ⟨Same.new nD, upd_same⟩ (fun i H2 _ hP => SqT.of (hP.1 t _ ht)) ?_ ?_⟩
      · rintro i e H2 hi ⟨sm, hD⟩
        obtain ⟨de, hde, dte⟩ := rt.get hi
        refine ⟨rfl, ?_⟩
        refine iteT (B := Same H H2 ∧ H2 D = some (.lst (((ds.take (i + 1)).map fun z => isV x z).map V.bl))) ?_
        refine ⟨_, rfl, a, _, 1, _, rfl, rfl, SqT.of (sm a _ h0), rfl, _, rfl, ?_⟩
        refine hR m rfl _ _ _ ⟨Fa, vx, e, x, de, rfl, dx.keep sm, dte.keep sm, by omega, hcl, hnf, by have := szA_mem (List.mem_of_getElem? hde); omega, fun H3 s3 => ?_⟩
        refine ⟨_, s3 _ _ hD, Nat.lt_of_le_of_lt (by rw [List.length_map, List.length_map, List.length_take]; omega : _ ≤ 10000000) (by decide), fun b o e2 => ?_, ?_⟩
        · rw [upd_ne (ne_of_none e2 nD)]
          exact s3 b o (sm b o e2)
        · rw [upd_same, take_snoc hde, List.map_append, List.map_append]
          rfl
      · rintro H2 ⟨sm, hD⟩
        rw [ll, List.take_length] at hD
        refine ⟨D, _, rfl, SqL.of hD, ?_⟩
        have e : (ds.map fun z => isV x z).all id = isV (.lst x) (.tuple ds) := by
          rw [isV_lst, List.all_map]
          rfl
        rw [e]
        exact q H2 sm
    | pair x y =>
      obtain ⟨vx, vy, h0, dx, dy⟩ := ka
      obtain ⟨m, rfl⟩ : ∃ m, n = m + 1 := ⟨n - 1, by have : max x.dep y.dep + 1 ≤ n := hdp; omega⟩
      have hdp' : max x.dep y.dep + 1 ≤ m + 1 := hdp
      obtain ⟨clx, cly⟩ := Bool.and_eq_true_iff.mp (show (x.closed && y.closed) = true from hcl)
      obtain ⟨nfx, nfy⟩ := Bool.and_eq_true_iff.mp (show (x.noFn && y.noFn) = true from hnf)
      refine ⟨_, rfl, a, _, 0, _, rfl, rfl, SqT.of h0, rfl, _, rfl, rfl, _, rfl, ifF (no (by decide)) ?_⟩
      refine ⟨_, rfl, _, _, ty, _, _, rfl, .ty _, tyx, k3, _, rfl, ?_⟩
      cases it : isTup d with
      | false => exact ifT rfl (by have := q H s0; rwa [isV_notup (by intro z; cases z) it] at this)
      | true =>
      obtain ⟨ds, rfl⟩ := isTup_of it
      obtain ⟨t, xs, rfl, ft, ht, rt⟩ := hd.tupI
      have ll := rt.length
      have sz0 := sz_tup ds
      refine ifF rfl ⟨_, rfl, rfl, _, rfl, ifF (no (by decide)) ⟨_, rfl, rfl, _, rfl, ifF (no (by decide)) ?_⟩⟩
      refine ⟨_, rfl, _, _, rfl, .inr ⟨_, SqT.of ht, rfl⟩, _, rfl, rfl, _, rfl, ifT (decide_eq_true rfl) ⟨rfl, _, rfl, ?_⟩⟩
      have dlen : ∀ z : Nat, decide (V.int ((xs.length : Nat) : Int) = V.int (z : Int)) = decide (ds.length = z) := fun z => by
        rw [ll]
        by_cases g : ds.length = z
        · rw [decide_eq_true g, decide_eq_true (by rw [g])]
        · rw [decide_eq_false g, decide_eq_false fun y => g (by have := V.int.inj y; omega)]
      by_cases g3 : ds.length = 3
      rotate_left
      · exact ifT (congrArg not ((dlen 3).trans (decide_eq_false g3))) (by have := q H s0; rwa [isV_pairL g3] at this)
      refine ifF (congrArg not ((dlen 3).trans (decide_eq_true g3))) ?_
      obtain ⟨d0, d1, d2, rfl⟩ : ∃ d0 d1 d2, ds = [d0, d1, d2] := by
        match ds, g3 with
        | [d0, d1, d2], _ => exact ⟨_, _, _, rfl⟩
      obtain ⟨v0, v1, v2, rfl, r0, r1, r2⟩ := rt.three
      obtain ⟨ty0, tyx0, _, _, _, k40⟩ := tyD (K := K) r0
      refine ⟨_, rfl, t, _, 0, _, rfl, rfl, SqT.of ht, rfl, _, _, ty0, _, _, rfl, .ty _, tyx0, k40, _, rfl, ?_⟩
      cases is0 : isStr d0 with
      | false => exact ifT rfl (by have := q H s0; rwa [isV_pairS is0] at this)
      | true =>
      obtain ⟨p, rfl⟩ := isStr_of is0
      have e0 := r0.strI
      subst e0
      refine ifF rfl ⟨_, rfl, rfl, _, rfl, ifT (decide_eq_true rfl) ?_⟩
      have ev : isV (.pair x y) (.tuple [.str p, d1, d2]) = (decide (p = "pair") && (isV x d1 && isV y d2)) := rfl
      rw [ev] at q
      have m1 := szA_mem (show d1 ∈ [PyData.str p, d1, d2] by simp)
      have m2 := szA_mem (show d2 ∈ [PyData.str p, d1, d2] by simp)
      refine ⟨_, rfl, t, _, 0, _, rfl, rfl, SqT.of ht, rfl, rfl, _, rfl, ?_⟩
      by_cases gp : p = "pair"
      rotate_left
      · refine ifF (no gp) ?_
        rw [decide_eq_false gp] at q
        have := q H s0
        exact this
      refine ifT (by rw [gp]; exact decide_eq_true rfl) ?_
      rw [decide_eq_true gp, Bool.true_and] at q
      refine ⟨_, rfl, a, _, 1, _, rfl, rfl, SqT.of h0, rfl, _, rfl, t, _, 1, _, rfl, rfl, SqT.of ht, rfl, ?_⟩
      refine hR m rfl _ _ _ ⟨Fa, vx, v1, x, d1, rfl, dx, r1, by omega, clx, nfx, by omega, fun H1 s1 => ?_⟩
      cases c1 : isV x d1 with
      | false =>
        refine ⟨_, rfl, ifF rfl ?_⟩
        have := q H1 s1
        rw [c1] at this
        exact this
      | true =>
        refine ⟨_, rfl, ifT rfl ?_⟩
        refine ⟨_, rfl, a, _, 2, _, rfl, rfl, SqT.of (s1 _ _ h0), rfl, _, rfl, t, _, 2, _, rfl, rfl, SqT.of (s1 _ _ ht), rfl, ?_⟩
        refine hR m rfl _ _ _ ⟨Fa, vy, v2, y, d2, rfl, dy.keep s1, r2.keep s1, by omega, cly, nfy, by omega, fun H2 s2 => ?_⟩
        have := q H2 (s1.trans s2)
        rw [c1, Bool.true_and] at this
        exact this
    | eith x y =>
      obtain ⟨vx, vy, h0, dx, dy⟩ := ka
      obtain ⟨m, rfl⟩ : ∃ m, n = m + 1 := ⟨n - 1, by have : max x.dep y.dep + 1 ≤ n := hdp; omega⟩
      have hdp' : max x.dep y.dep + 1 ≤ m + 1 := hdp
      obtain ⟨clx, cly⟩ := Bool.and_eq_true_iff.mp (show (x.closed && y.closed) = true from hcl)
      obtain ⟨nfx, nfy⟩ := Bool.and_eq_true_iff.mp (show (x.noFn && y.noFn) = true from hnf)
      refine ⟨_, rfl, a, _, 0, _, rfl, rfl, SqT.of h0, rfl, _, rfl, rfl, _, rfl, ifF (no (by decide)) ?_⟩
      refine ⟨_, rfl, _, _, ty, _, _, rfl, .ty _, tyx, k3, _, rfl, ?_⟩
      cases it : isTup d with
      | false => exact ifT rfl (by have := q H s0; rwa [isV_notup (by intro z; cases z) it] at this)
      | true =>
      obtain ⟨ds, rfl⟩ := isTup_of it
      obtain ⟨t, xs, rfl, ft, ht, rt⟩ := hd.tupI
      have ll := rt.length
      have sz0 := sz_tup ds
      refine ifF rfl ⟨_, rfl, rfl, _, rfl, ifF (no (by decide)) ⟨_, rfl, rfl, _, rfl, ifF (no (by decide)) ?_⟩⟩
      refine ⟨_, rfl, _, _, rfl, .inr ⟨_, SqT.of ht, rfl⟩, _, rfl, rfl, _, rfl, ifF (no (by decide)) ⟨rfl, _, rfl, ?_⟩⟩
      have dlen : ∀ z : Nat, decide (V.int ((xs.length : Nat) : Int) = V.int (z : Int)) = decide (ds.length = z) := fun z => by
        rw [ll]
        by_cases g : ds.length = z
        · rw [decide_eq_true g, decide_eq_true (by rw [g])]
        · rw [decide_eq_false g, decide_eq_false fun y => g (by have := V.int.inj y; omega)]
      by_cases g3 : ds.length = 2
      rotate_left
      · exact ifT (congrArg not ((dlen 2).trans (decide_eq_false g3))) (by have := q H s0; rwa [isV_eithL g3] at this)
      refine ifF (congrArg not ((dlen 2).trans (decide_eq_true g3))) ?_
      obtain ⟨d0, d1, rfl⟩ : ∃ d0 d1, ds = [d0, d1] := by
        match ds, g3 with
        | [d0, d1], _ => exact ⟨_, _, rfl⟩
      obtain ⟨v0, v1, rfl, r0, r1⟩ := rt.two
      obtain ⟨ty0, tyx0, _, _, _, k40⟩ := tyD (K := K) r0
      refine ⟨_, rfl, t, _, 0, _, rfl, rfl, SqT.of ht, rfl, _, _, ty0, _, _, rfl, .ty _, tyx0, k40, _, rfl, ?_⟩
      cases is0 : isStr d0 with
      | false => exact ifT rfl (by have := q H s0; rwa [isV_eithS is0] at this)
      | true =>
      obtain ⟨p, rfl⟩ := isStr_of is0
      have e0 := r0.strI
      subst e0
      refine ifF rfl ⟨_, rfl, rfl, _, rfl, ifF (no (x := "either") (by decide)) ?_⟩
      have ev : isV (.eith x y) (.tuple [.str p, d1]) = (if p = "left" then isV x d1 else decide (p = "right") && isV y d1) := rfl
      rw [ev] at q
      have m1 := szA_mem (show d1 ∈ [PyData.str p, d1] by simp)
      refine ⟨_, rfl, t, _, 0, _, rfl, rfl, SqT.of ht, rfl, big _ (by show (2 : Nat) ≤ 1000; decide), fun u nu => ?_⟩
      have sm := @Same.new u _ (.tup [.str "left", .str "right"]) nu
      refine ⟨u, _, rfl, .inr (SqT.of upd_same), rfl, flat_strs ["left", "right"], _, rfl, ?_⟩
      have inw : inV (.str p) [V.str "left", V.str "right"] = decide (p = "left" ∨ p = "right") := by
        have e := inV_str p ["left", "right"]
        rw [show [V.str "left", V.str "right"] = (["left", "right"] : List Str).map V.str from rfl, e]
        rw [Bool.eq_iff_iff, contains_two]
        simp
      by_cases gp : p = "left" ∨ p = "right"
      rotate_left
      · refine ifF (inw.trans (decide_eq_false gp)) ?_
        have := q _ sm
        rw [if_neg (fun z => gp (.inl z)), decide_eq_false (fun z => gp (.inr z)), Bool.false_and] at this
        exact this
      refine ifT (inw.trans (decide_eq_true gp)) ?_
      refine ⟨_, rfl, _, rfl, t, _, 0, _, rfl, rfl, SqT.of (sm _ _ ht), rfl, rfl, _, rfl, ?_⟩
      by_cases gl : p = "left"
      · rw [if_pos gl] at q
        refine ifT (by rw [gl]; exact decide_eq_true rfl) ⟨a, _, 1, _, rfl, rfl, SqT.of (sm _ _ h0), rfl, _, rfl, t, _, 1, _, rfl, rfl, SqT.of (sm _ _ ht), rfl, ?_⟩
        exact hR m rfl _ _ _ ⟨Fa, vx, v1, x, d1, rfl, dx.keep sm, r1.keep sm, by omega, clx, nfx, by omega, fun H1 s1 => q H1 (sm.trans s1)⟩
      · rw [if_neg gl, decide_eq_true (gp.resolve_left gl), Bool.true_and] at q
        refine ifF (no gl) ⟨a, _, 2, _, rfl, rfl, SqT.of (sm _ _ h0), rfl, _, rfl, t, _, 1, _, rfl, rfl, SqT.of (sm _ _ ht), rfl, ?_⟩
        exact hR m rfl _ _ _ ⟨Fa, vy, v1, y, d1, rfl, dy.keep sm, r1.keep sm, by omega, cly, nfy, by omega, fun H1 s1 => q H1 (sm.trans s1)⟩
theorem ok_has {f : Addr} {fd : FuncData} (F : FnP K "_law_has" (top 58) f fd) (T : Bl K mg) (hWhole : Has P w K mg base "_law_is_whole" ["_law_thing_here"] 1 spWh)
    (gR : mg "_law_has" = some (.ref f)) (bR : Binds K fd ["_law_form_here", "_law_thing_here"] []) : ∀ n : Nat, FnOk P w K mg base CX0 (1 + n + 1) f fd ["_law_form_here", "_law_thing_here"] (spHas n)
  | 0 => has_body 0 (spR := fun _ _ _ _ => False) F T hWhole gR bR ⟨fun _ _ _ _ h => h.elim, fun _ _ _ _ _ _ _ _ _ _ _ _ _ h => h.elim⟩ fun m e => by cases e
  | n + 1 => has_body (n + 1) F T hWhole gR bR (ok_has F T hWhole gR bR n) fun m e => by cases e; exact fun _ _ _ h => h
end
end N3
namespace N3
open PySem PySem.Spec PyProof.Rows L2 KB
def toK : Nat → PyData → Kd
  | 0, _ => .unit
  | _ + 1, .tuple [.str s] => if s = "num" then .num else .unit
  | n + 1, .tuple [.str _, x] => .lst (toK n x)
  | n + 1, .tuple [.str s, x, y] => if s = "pair" then .pair (toK n x) (toK n y) else .eith (toK n x) (toK n y)
  | _ + 1, _ => .unit
theorem clN_eq (n : Nat) (s : Str) (ds : List PyData) : clN (n + 1) (.tuple (.str s :: ds)) = (if s = "unit" ∨ s = "num" then ds.isEmpty else if s = "list" then one1 (clN n) ds else if s = "pair" ∨ s = "either" then two2 (clN n) ds else false) := rfl
theorem clN_ok : ∀ (n : Nat) (d : PyData), clN n d = true → (toK n d).d = d ∧ (toK n d).closed = true ∧ (toK n d).noFn = true ∧ (toK n d).dep ≤ n
  | 0, d, h => by cases d <;> cases h
  | n + 1, d, h => by
    cases it : isTup d with
    | false => rw [clN_no it] at h; cases h
    | true =>
      obtain ⟨ds, rfl⟩ := isTup_of it
      match ds, h with
      | [], h => cases h
      | d0 :: ds, h =>
        cases is0 : isStr d0 with
        | false => rw [clN_hd is0] at h; cases h
        | true =>
          obtain ⟨s, rfl⟩ := isStr_of is0
          rw [clN_eq] at h
          by_cases g1 : s = "unit" ∨ s = "num"
          · rw [if_pos g1] at h
            match ds, h with
            | [], _ =>
              show (if s = "num" then Kd.num else Kd.unit).d = _ ∧ (if s = "num" then Kd.num else Kd.unit).closed = _ ∧ (if s = "num" then Kd.num else Kd.unit).noFn = _ ∧ (if s = "num" then Kd.num else Kd.unit).dep ≤ _
              by_cases g : s = "num"
              · rw [if_pos g, g]
                exact ⟨rfl, rfl, rfl, Nat.le_add_left _ _⟩
              · rw [if_neg g, g1.resolve_right g]
                exact ⟨rfl, rfl, rfl, Nat.le_add_left _ _⟩
            | _ :: _, h => cases h
          rw [if_neg g1] at h
          by_cases g2 : s = "list"
          · rw [if_pos g2] at h
            match ds, h with
            | [x], h =>
              obtain ⟨e1, e2, e3, e4⟩ := clN_ok n x h
              show (Kd.lst (toK n x)).d = _ ∧ _
              refine ⟨?_, e2, e3, Nat.succ_le_succ e4⟩
              rw [Kd.d, e1, g2]
            | [], h => cases h
            | _ :: _ :: _, h => cases h
          rw [if_neg g2] at h
          by_cases g3 : s = "pair" ∨ s = "either"
          · rw [if_pos g3] at h
            match ds, h with
            | [x, y], h =>
              obtain ⟨h1, h2⟩ := Bool.and_eq_true_iff.mp (show (clN n x && clN n y) = true from h)
              obtain ⟨e1, e2, e3, e4⟩ := clN_ok n x h1
              obtain ⟨f1, f2, f3, f4⟩ := clN_ok n y h2
              show (if s = "pair" then Kd.pair (toK n x) (toK n y) else Kd.eith (toK n x) (toK n y)).d = _ ∧ (if s = "pair" then Kd.pair (toK n x) (toK n y) else Kd.eith (toK n x) (toK n y)).closed = _ ∧ (if s = "pair" then Kd.pair (toK n x) (toK n y) else Kd.eith (toK n x) (toK n y)).noFn = _ ∧ (if s = "pair" then Kd.pair (toK n x) (toK n y) else Kd.eith (toK n x) (toK n y)).dep ≤ _
              by_cases g : s = "pair"
              · rw [if_pos g, g]
                refine ⟨by rw [Kd.d, e1, f1], by simp only [Kd.closed, e2, f2, Bool.and_self], by simp only [Kd.noFn, e3, f3, Bool.and_self], by simp only [Kd.dep]; omega⟩
              · rw [if_neg g, g3.resolve_left g]
                refine ⟨by rw [Kd.d, e1, f1], by simp only [Kd.closed, e2, f2, Bool.and_self], by simp only [Kd.noFn, e3, f3, Bool.and_self], by simp only [Kd.dep]; omega⟩
            | [], h => cases h
            | [_], h => cases h
            | _ :: _ :: _ :: _, h => (cases h)
          · rw [if_neg g3] at h
            cases h
theorem clN_d : ∀ (n : Nat) (k : Kd), k.closed = true → k.noFn = true → k.dep ≤ n → clN n k.d = true
  | 0, k, _, _, h => absurd h (by have := Kd.dep_pos k; omega)
  | n + 1, .num, _, _, _ => rfl
  | n + 1, .unit, _, _, _ => rfl
  | n + 1, .var _, h, _, _ => by cases h
  | n + 1, .fn _ _, _, h, _ => by cases h
  | n + 1, .lst a, h1, h2, h3 => clN_d n a h1 h2 (Nat.le_of_succ_le_succ h3)
  | n + 1, .pair a b, h1, h2, h3 => by
    obtain ⟨c1, c2⟩ := Bool.and_eq_true_iff.mp (show (a.closed && b.closed) = true from h1)
    obtain ⟨f1, f2⟩ := Bool.and_eq_true_iff.mp (show (a.noFn && b.noFn) = true from h2)
    have h3' : max a.dep b.dep + 1 ≤ n + 1 := h3
    show (clN n a.d && clN n b.d) = true
    rw [clN_d n a c1 f1 (by omega), clN_d n b c2 f2 (by omega)]
    rfl
  | n + 1, .eith a b, h1, h2, h3 => by
    obtain ⟨c1, c2⟩ := Bool.and_eq_true_iff.mp (show (a.closed && b.closed) = true from h1)
    obtain ⟨f1, f2⟩ := Bool.and_eq_true_iff.mp (show (a.noFn && b.noFn) = true from h2)
    have h3' : max a.dep b.dep + 1 ≤ n + 1 := h3
    show (clN n a.d && clN n b.d) = true
    rw [clN_d n a c1 f1 (by omega), clN_d n b c2 f2 (by omega)]
    rfl
theorem okv_closed : ∀ k : Kd, k.closed = true → k.okv = true
  | .num, _ => rfl
  | .unit, _ => rfl
  | .var _, h => by cases h
  | .lst a, h => okv_closed a h
  | .pair a b, h => by
    obtain ⟨c1, c2⟩ := Bool.and_eq_true_iff.mp (show (a.closed && b.closed) = true from h)
    show (a.okv && b.okv) = true
    rw [okv_closed a c1, okv_closed b c2]; rfl
  | .eith a b, h => by
    obtain ⟨c1, c2⟩ := Bool.and_eq_true_iff.mp (show (a.closed && b.closed) = true from h)
    show (a.okv && b.okv) = true
    rw [okv_closed a c1, okv_closed b c2]; rfl
  | .fn a b, h => by
    obtain ⟨c1, c2⟩ := Bool.and_eq_true_iff.mp (show (a.closed && b.closed) = true from h)
    show (a.okv && b.okv) = true
    rw [okv_closed a c1, okv_closed b c2]; rfl
theorem dk_ck (d : PyData) : (isDk d && isCk d) = clN 100 d := by
  rw [Bool.eq_iff_iff]
  constructor
  · intro h
    obtain ⟨h1, h2⟩ := Bool.and_eq_true_iff.mp h
    obtain ⟨i1, n1⟩ := Bool.and_eq_true_iff.mp (show (KB.isK d && nf d) = true from h1)
    obtain ⟨_, c1⟩ := Bool.and_eq_true_iff.mp (show (KB.isK d && cl d) = true from h2)
    obtain ⟨k, rfl, ov, dp⟩ := isK_ok i1
    rw [nf_d] at n1
    rw [cl_d] at c1
    exact clN_d 100 k c1 n1 dp
  · intro h
    obtain ⟨e1, e2, e3, e4⟩ := clN_ok 100 d h
    rw [← e1]
    have i1 := isK_d (okv_closed _ e2) e4
    rw [isDk, isCk, i1, nf_d, cl_d, e2, e3]
    rfl
def nmOf : PyData → Str
  | .tuple (.str x :: _) => x
  | _ => ""
def fstD : PyData → PyData
  | .tuple (x :: _) => x
  | _ => .none
def pOk (a b : Kd) : PyData → Bool
  | .tuple [x, y] => isV a x && isV b y
  | _ => false
def plt (a b : Kd) : PyData → PyData → Bool
  | .tuple [x, y], .tuple [x', y'] => lt2b (cmpF a x x') (cmpF b y y')
  | _, _ => false
def ascB (a b : Kd) (ps : List PyData) : Bool := (List.range (ps.length - 1)).all fun i => plt a b (ps.getD i .none) (ps.getD (i + 1) .none)
def prs (a b : Kd) (ps : List PyData) : Bool := ps.all (pOk a b) && ascB a b ps
def isRow : PyData → Bool
  | .tuple [.str x, k1, k2, .tuple ps] => decide (x ∈ abc) && (clN 100 k1 && (clN 100 k2 && prs (toK 100 k1) (toK 100 k2) ps))
  | _ => false
def nmAsc (rs : List PyData) : Bool := (List.range (rs.length - 1)).all fun i => decide ((nmOf (rs.getD i .none)).cps.toList < (nmOf (rs.getD (i + 1) .none)).cps.toList)
def isRel : PyData → Bool
  | .tuple rs => rs.all isRow && nmAsc rs
  | _ => false
def prsOf : PyData → List PyData
  | .tuple [_, _, _, .tuple ps] => ps
  | _ => []
def sgl1 (ps : List PyData) : Bool := (List.range (ps.length - 1)).all fun i => !PyData.eqv (fstD (ps.getD i .none)) (fstD (ps.getD (i + 1) .none))
def isSgl : PyData → Bool
  | .tuple rs => rs.all fun r => sgl1 (prsOf r)
  | _ => false
theorem isRow_len {ds : List PyData} (h : ds.length ≠ 4) : isRow (.tuple ds) = false := by
  match ds, h with
  | [], _ => rfl
  | [x], _ => cases x <;> rfl
  | [x, _], _ => cases x <;> rfl
  | [x, _, _], _ => cases x <;> rfl
  | [_, _, _, _], h => exact absurd rfl h
  | x :: _ :: _ :: y :: _ :: _, _ => cases x <;> cases y <;> rfl
theorem isRow_hd {d0 d1 d2 d3 : PyData} (h : isStr d0 = false) : isRow (.tuple [d0, d1, d2, d3]) = false := by
  cases d0 <;> first | rfl | cases h
theorem isRow_tl {d0 d1 d2 d3 : PyData} (h : isTup d3 = false) : isRow (.tuple [d0, d1, d2, d3]) = false := by
  cases d0 <;> cases d3 <;> first | rfl | cases h
theorem isRow_no {d : PyData} (h : isTup d = false) : isRow d = false := by
  cases d <;> first | rfl | cases h
theorem isRow_eq (x : Str) (k1 k2 : PyData) (ps : List PyData) : isRow (.tuple [.str x, k1, k2, .tuple ps]) = (decide (x ∈ abc) && (clN 100 k1 && (clN 100 k2 && prs (toK 100 k1) (toK 100 k2) ps))) := rfl
theorem pOk_len {a b : Kd} {ds : List PyData} (h : ds.length ≠ 2) : pOk a b (.tuple ds) = false := by
  match ds, h with
  | [], _ => rfl
  | [_], _ => rfl
  | [_, _], h => exact absurd rfl h
  | _ :: _ :: _ :: _, _ => rfl
theorem pOk_no {a b : Kd} {d : PyData} (h : isTup d = false) : pOk a b d = false := by
  cases d <;> first | rfl | cases h
theorem vv_of : ∀ (k : Kd) (d : PyData), isV k d = true → IB (bg + 1000) d → sz d ≤ 4000000 → VV 10000000 k d
  | .num, .int i, _, hb, _ => by
    rw [IB] at hb
    exact .num i (Nat.le_trans hb (Nat.add_le_add_left (by decide) _))
  | .unit, .tuple [], _, _, _ => .unit
  | .lst a, .tuple xs, h, hb, hz => by
    have hz' := sz_tup xs
    have hl := szA_len xs
    have h' : (xs.all fun x => isV a x) = true := by rw [isV_lst] at h; exact h
    refine .lst (by omega) fun x hx => vv_of a x (List.all_eq_true.mp h' x hx) (ib_tup.mp hb x hx) ?_
    have := szA_mem hx
    omega
  | .pair a b, .tuple [.str p, x, y], h, hb, hz => by
    have hz' := sz_tup [.str p, x, y]
    have m1 := szA_mem (show x ∈ [PyData.str p, x, y] by simp)
    have m2 := szA_mem (show y ∈ [PyData.str p, x, y] by simp)
    have h' : (decide (p = "pair") && (isV a x && isV b y)) = true := h
    (simp only [Bool.and_eq_true, decide_eq_true_eq] at h')
    obtain ⟨rfl, h1, h2⟩ := h'
    exact .pair (vv_of a x h1 (ib_tup.mp hb x (by simp)) (by omega)) (vv_of b y h2 (ib_tup.mp hb y (by simp)) (by omega))
  | .eith a b, .tuple [.str p, x], h, hb, hz => by
    have hz' := sz_tup [.str p, x]
    have m1 := szA_mem (show x ∈ [PyData.str p, x] by simp)
    have h' : (if p = "left" then isV a x else decide (p = "right") && isV b x) = true := h
    by_cases g : p = "left"
    · rw [if_pos g] at h'
      subst g
      exact .left (vv_of a x h' (ib_tup.mp hb x (by simp)) (by omega))
    · rw [if_neg g] at h'
      (simp only [Bool.and_eq_true, decide_eq_true_eq] at h')
      obtain ⟨rfl, h2⟩ := h'
      exact .right (vv_of b x h2 (ib_tup.mp hb x (by simp)) (by omega))
theorem pOk_ex {a b : Kd} {p : PyData} (h : pOk a b p = true) : ∃ x y, p = .tuple [x, y] ∧ isV a x = true ∧ isV b y = true := by
  match p, h with
  | .tuple [x, y], h =>
    obtain ⟨h1, h2⟩ := Bool.and_eq_true_iff.mp (show (isV a x && isV b y) = true from h)
    exact ⟨x, y, rfl, h1, h2⟩
theorem range_all_false {n i : Nat} {f : Nat → Bool} (hi : i < n) (h : f i = false) : (List.range n).all f = false := by
  rw [List.all_eq_false]
  exact ⟨i, List.mem_range.mpr hi, by rw [h]; decide⟩
theorem getD_of {l : List PyData} {i : Nat} {x : PyData} (h : l[i]? = some x) : l.getD i .none = x := by
  rw [List.getD_eq_getElem?_getD, h]; rfl
end N3
namespace N3
open PySem PySem.Spec PyProof.Rows L2 KB
section
variable {K : PySem.W.Frag} {mg : Str → Option Value} {base : Heap} {P : Program} {w : World}
theorem ixL {X : Cx} {K : PySem.W.Frag} (h : X.K = K) : IxR X (rIxL K) := by
  rw [← h]
  exact ix_list
theorem inw3 (x : Str) : inV (.str x) [V.str "a", V.str "b", V.str "c"] = decide (x ∈ abc) := by
  have e := inV_str x ["a", "b", "c"]
  rw [show [V.str "a", V.str "b", V.str "c"] = (["a", "b", "c"] : List Str).map V.str from rfl, e]
  rw [Bool.eq_iff_iff]
  simp [abc]
def kyP (a b : Kd) : PyData → PyData
  | .tuple [x, y] => .tuple [ky a x, ky b y]
  | d => d
def spIr : Sp := fun vs H Q _ => ∃ (F : Addr → Prop) (v : V) (d : PyData), vs = [v] ∧ (∀ p, H p = none → F p) ∧ Dt F H v d ∧ sz d ≤ 4000000 ∧ IB (bg + 1000) d ∧ ∀ H', Same H H' → Q (.bl (isRow d)) H'
abbrev nIr : List Str := ["_law_thing_here", "_law_keys", "_law_pair", "_law_spot"]
theorem sc_nIr : FnScope nIr ["_law_thing_here"] (defScope (top 59)) := ⟨rfl, rfl, rfl, by decide +kernel, rfl, by decide +kernel, by decide +kernel⟩
theorem ok_isrow {f : Addr} {fd : FuncData} (F : FnP K "_law_is_row" (top 59) f fd) (T : Bl K mg) (hHas : Has P w K mg base "_law_has" ["_law_form_here", "_law_thing_here"] 102 (spHas 100)) (hKey : Has P w K mg base "_law_key" ["_law_form_here", "_law_worth_here"] 101 (spKy 100)) (hIsc : Has P w K mg base "_law_is_closed" ["_law_thing_here", "_law_left"] 101 (spIcl 100)) : FnOk P w K mg base CX0 103 f fd ["_law_thing_here"] spIr := by
  obtain ⟨fHas, fdHas, kHas, gHas, bHas, GHas⟩ := hHas
  obtain ⟨fKey, fdKey, kKey, gKey, bKey, GKey⟩ := hKey
  obtain ⟨fIsc, fdIsc, kIsc, gIsc, bIsc, GIsc⟩ := hIsc
  refine F.ok sc_nIr (fun vs H Q E h => ?_) (fun cdv A outer s H vs Q E hr h => ?_)
  · obtain ⟨F, v, d, rfl, _⟩ := h
    rfl
  · obtain ⟨Fa, v, d, rfl, hF, hd, hsz, hib, q⟩ := h
    have sc := sc_nIr
    have hrIsc : Room 101 _ := hr.mono (by omega)
    have hrKey : Room 101 _ := hr.mono (by omega)
    have hrHas : Room 102 _ := hr
    refine ⟨_, PSs.nox (pss_cons (ps_if (PW.pt (pw_or (pt_not (pt_val (pe_callB call_isi (by rfl) T.isinstance (by decide +kernel) (pa_cons (pv 0) (pa_cons (pe_bltn (v := .ty "tuple") (by rfl) T.tuple (by decide +kernel) rfl) pa_nil))))) (pw_or (pt_cmpR op_ne (pe_callB call_len (by rfl) T.len (by decide +kernel) (pa_cons (pv 0) pa_nil)) pe_int (nomark _)) (pw_or1 (pt_not (pt_val (pe_callB call_isi (by rfl) T.isinstance (by decide +kernel) (pa_cons (pe_ix ix_tup (pv 0) pe_int (fun _ _ => rfl)) (pa_cons (pe_bltn (v := .ty "str") (by rfl) T.str (by decide +kernel) rfl) pa_nil))))))))) (pss_one (ps_ret pe_bl)) pss_nil) (pss_cons (ps_if (PW.pt (pw_or (pt_cmpR op_notIn_seq (pe_ix ix_tup (pv 0) pe_int (fun _ _ => rfl)) (pe_tup (pa_cons pe_str (pa_cons pe_str (pa_cons pe_str pa_nil)))) (by rfl)) (pw_or (pt_not (pt_val (pe_call GIsc hrIsc rfl gIsc kIsc bIsc .nil pass0 (pa_cons (pe_ix ix_tup (pv 0) pe_int (fun _ _ => rfl)) (pa_cons pe_int pa_nil))))) (pw_or1 (pt_not (pt_val (pe_call GIsc hrIsc rfl gIsc kIsc bIsc .nil pass0 (pa_cons (pe_ix ix_tup (pv 0) pe_int (fun _ _ => rfl)) (pa_cons pe_int pa_nil))))))))) (pss_one (ps_ret pe_bl)) pss_nil) (pss_cons (ps_if (pt_not (pt_val (pe_callB call_isi (by rfl) T.isinstance (by decide +kernel) (pa_cons (pe_ix ix_tup (pv 0) pe_int (fun _ _ => rfl)) (pa_cons (pe_bltn (v := .ty "tuple") (by rfl) T.tuple (by decide +kernel) rfl) pa_nil))))) (pss_one (ps_ret pe_bl)) pss_nil) (pss_cons (ps_set (i := 1) sc.nd rfl (Or.inr rfl) (pe_lst pa_nil)) (pss_cons (ps_for PassesOwn.never rfl (pi_tup (pe_ix ix_tup (pv 0) pe_int (fun _ _ => rfl))) (pg_name (i := 2) sc.nd rfl (Or.inl rfl)) (pss_cons (ps_if (PW.pt (pw_or (pt_not (pt_val (pe_callB call_isi (by rfl) T.isinstance (by decide +kernel) (pa_cons (pv 2) (pa_cons (pe_bltn (v := .ty "tuple") (by rfl) T.tuple (by decide +kernel) rfl) pa_nil))))) (pw_or1 (pt_cmpR op_ne (pe_callB call_len (by rfl) T.len (by decide +kernel) (pa_cons (pv 2) pa_nil)) pe_int (nomark _))))) (pss_one (ps_ret pe_bl)) pss_nil) (pss_cons (ps_if (PW.pt (pw_or (pt_not (pt_val (pe_call GHas hrHas rfl gHas kHas bHas .nil pass0 (pa_cons (pe_ix ix_tup (pv 0) pe_int (fun _ _ => rfl)) (pa_cons (pe_ix ix_tup (pv 2) pe_int (fun _ _ => rfl)) pa_nil))))) (pw_or1 (pt_not (pt_val (pe_call GHas hrHas rfl gHas kHas bHas .nil pass0 (pa_cons (pe_ix ix_tup (pv 0) pe_int (fun _ _ => rfl)) (pa_cons (pe_ix ix_tup (pv 2) pe_int (fun _ _ => rfl)) pa_nil)))))))) (pss_one (ps_ret pe_bl)) pss_nil) (pss_one (ps_expr (pe_bm PySem.F.plainAttrs_list PySem.F.slot_list_append PySem.F.type_list_append mt_append (pv 1) (pa_cons (pe_tup (pa_cons (pe_call GKey hrKey rfl gKey kKey bKey .nil pass0 (pa_cons (pe_ix ix_tup (pv 0) pe_int (fun _ _ => rfl)) (pa_cons (pe_ix ix_tup (pv 2) pe_int (fun _ _ => rfl)) pa_nil))) (pa_cons (pe_call GKey hrKey rfl gKey kKey bKey .nil pass0 (pa_cons (pe_ix ix_tup (pv 0) pe_int (fun _ _ => rfl)) (pa_cons (pe_ix ix_tup (pv 2) pe_int (fun _ _ => rfl)) pa_nil))) pa_nil))) pa_nil))))))) (pss_one (ps_ret (pe_callB (cr_all rfl) (by rfl) T.all (by decide +kernel) (pa_cons (pe_lc (own := [("_law_spot", 3)]) (g := gName 3) (tt := tYes) (by rfl) sc.nd (pi_range1 rfl T.range (pa_cons (pe_op op_sub (pe_callB call_len (by rfl) T.len (by decide +kernel) (pa_cons (pv 1) pa_nil)) pe_int) pa_nil)) (blkOk_by (own := [("_law_spot", 3)]) (N := nIr) (sc := (defScope (top 59))) (by decide +kernel)) (fun _ _ _ _ _ => (pg_name (i := 3) sc.nd rfl (Or.inl rfl))) (fun _ _ _ _ _ => pts_nil) (fun _ _ _ _ _ => (pe_cmpR (op_ltPK T.sys hr) (pe_ix (ixL (K := K) rfl) (pv 1) (pv 3) (fun _ _ => rfl)) (pe_ix (ixL (K := K) rfl) (pv 1) (pe_op op_add (pv 3) pe_int) (fun _ _ => rfl)) (nomark _)))) pa_nil))))))))), ?_⟩
    have big : ∀ k : Nat, k ≤ 1000 → k ≤ sizeLine := fun k h => Nat.le_of_lt (small1000 h)
    have s0 := Same.refl H
    obtain ⟨ty, tyx, k1, k2, k3, k4⟩ := tyD (K := K) hd
    refine ⟨_, rfl, _, _, ty, _, _, rfl, .ty _, tyx, k3, _, rfl, ?_⟩
    cases it : isTup d with
    | false => exact ifT rfl (by have := q H s0; rwa [isRow_no it] at this)
    | true =>
    obtain ⟨ds, rfl⟩ := isTup_of it
    obtain ⟨a, xs, rfl, fa, ha, ra⟩ := hd.tupI
    have ll := ra.length
    have sz0 := sz_tup ds
    refine ifF rfl ⟨_, rfl, _, _, rfl, .inr ⟨_, SqT.of ha, rfl⟩, rfl, _, rfl, ?_⟩
    have dlen : ∀ z : Nat, decide (V.int ((xs.length : Nat) : Int) = V.int (z : Int)) = decide (ds.length = z) := fun z => by
      rw [ll]
      by_cases g : ds.length = z
      · rw [decide_eq_true g, decide_eq_true (by rw [g])]
      · rw [decide_eq_false g, decide_eq_false fun y => g (by have := V.int.inj y; omega)]
    by_cases g3 : ds.length = 4
    rotate_left
    · exact ifT (congrArg not ((dlen 4).trans (decide_eq_false g3))) (by have := q H s0; rwa [isRow_len g3] at this)
    refine ifF (congrArg not ((dlen 4).trans (decide_eq_true g3))) ?_
    obtain ⟨d0, d1, d2, d3, rfl⟩ : ∃ d0 d1 d2 d3, ds = [d0, d1, d2, d3] := by
      match ds, g3 with
      | [d0, d1, d2, d3], _ => exact ⟨_, _, _, _, rfl⟩
    obtain ⟨v0, v1, v2, v3, rfl, r0, r1, r2, r3⟩ : ∃ v0 v1 v2 v3, xs = [v0, v1, v2, v3] ∧ Dt Fa H v0 d0 ∧ Dt Fa H v1 d1 ∧ Dt Fa H v2 d2 ∧ Dt Fa H v3 d3 := by
      cases ra with
      | cons r0 r =>
        obtain ⟨y1, y2, y3, rfl, r1, r2, r3⟩ := r.three
        exact ⟨_, _, _, _, rfl, r0, r1, r2, r3⟩
    have m1 := szA_mem (show d1 ∈ [d0, d1, d2, d3] by simp)
    have m2 := szA_mem (show d2 ∈ [d0, d1, d2, d3] by simp)
    have m3 := szA_mem (show d3 ∈ [d0, d1, d2, d3] by simp)
    obtain ⟨ty0, tyx0, _, _, _, k40⟩ := tyD (K := K) r0
    refine ⟨_, rfl, a, _, 0, _, rfl, rfl, SqT.of ha, rfl, _, _, ty0, _, _, rfl, .ty _, tyx0, k40, _, rfl, ?_⟩
    cases is0 : isStr d0 with
    | false => exact ifT rfl (by have := q H s0; rwa [isRow_hd is0] at this)
    | true =>
    obtain ⟨x, rfl⟩ := isStr_of is0
    have e0 := r0.strI
    subst e0
    refine ifF rfl ?_
    refine ⟨_, rfl, a, _, 0, _, rfl, rfl, SqT.of ha, rfl, big _ (by show (3 : Nat) ≤ 1000; decide), fun u nu => ?_⟩
    have sm := @Same.new u _ (.tup [.str "a", .str "b", .str "c"]) nu
    refine ⟨u, _, rfl, .inr (SqT.of upd_same), rfl, flat_strs ["a", "b", "c"], _, rfl, ?_⟩
    have fin : isTup d3 = false ∨ ∃ ps, d3 = .tuple ps := by
      cases it3 : isTup d3 with
      | false => exact .inl rfl
      | true => exact .inr (isTup_of it3)
    have qF : ∀ (H' : Hp), Same H H' → isRow (.tuple [.str x, d1, d2, d3]) = false → Q (.bl false) H' := fun H' s e => by
      have := q H' s
      rwa [e] at this
    by_cases gx : x ∈ abc
    rotate_left
    · refine ifT (by rw [inw3, decide_eq_false gx]; rfl) (qF _ sm ?_)
      rcases fin with e | ⟨ps, rfl⟩
      · exact isRow_tl e
      · rw [isRow_eq, decide_eq_false gx, Bool.false_and]
    refine ifF (by rw [inw3, decide_eq_true gx]; rfl) ?_
    refine ⟨_, rfl, a, _, 1, _, rfl, rfl, SqT.of (sm _ _ ha), rfl, ?_⟩
    refine ⟨Fa, v1, d1, rfl, r1.keep sm, fun H1 s1 => ?_⟩
    have s01 := sm.trans s1
    refine ⟨_, rfl, ?_⟩
    cases c1 : clN 100 d1 with
    | false =>
      refine ifT rfl (qF _ s01 ?_)
      rcases fin with e | ⟨ps, rfl⟩
      · exact isRow_tl e
      · rw [isRow_eq, c1, Bool.false_and, Bool.and_false]
    | true =>
    refine ifF rfl ?_
    refine ⟨_, rfl, a, _, 2, _, rfl, rfl, SqT.of (s01 _ _ ha), rfl, ?_⟩
    refine ⟨Fa, v2, d2, rfl, r2.keep s01, fun H2 s2 => ?_⟩
    have s02 := s01.trans s2
    refine ⟨_, rfl, ?_⟩
    cases c2 : clN 100 d2 with
    | false =>
      refine ifT rfl (qF _ s02 ?_)
      rcases fin with e | ⟨ps, rfl⟩
      · exact isRow_tl e
      · rw [isRow_eq, c2, Bool.false_and, Bool.and_false, Bool.and_false]
    | true =>
    refine ifF rfl ?_
    have r3' := r3.keep s02
    obtain ⟨ty3, tyx3, _, _, k33, _⟩ := tyD (K := K) r3'
    refine ⟨_, rfl, a, _, 3, _, rfl, rfl, SqT.of (s02 _ _ ha), rfl, _, _, ty3, _, _, rfl, .ty _, tyx3, k33, _, rfl, ?_⟩
    rcases fin with e | ⟨ps, rfl⟩
    · rw [e]
      exact ifT rfl (qF _ s02 (isRow_tl e))
    refine ifF rfl ?_
    rw [isRow_eq, decide_eq_true gx, c1, c2, Bool.true_and, Bool.true_and, Bool.true_and] at q
    obtain ⟨f1, f2, f3, f4⟩ := clN_ok 100 d1 c1
    obtain ⟨h1, h2, h3, h4⟩ := clN_ok 100 d2 c2
    have dk1 : Dt Fa H v1 (toK 100 d1).d := by rw [f1]; exact r1
    have dk2 : Dt Fa H v2 (toK 100 d2).d := by rw [h1]; exact r2
    generalize toK 100 d1 = ka at f1 f2 f3 f4 dk1 q
    generalize toK 100 d2 = kb at h1 h2 h3 h4 dk2 q
    have hib3 := ib_tup.mp (ib_tup.mp hib (.tuple ps) (by simp))
    obtain ⟨a3, ys, rfl, fa3, ha3, ra3⟩ := r3.tupI
    have l3 := ra3.length
    have sz3 := sz_tup ps
    have lz3 := szA_len ps
    refine ⟨Nat.zero_le _, fun L nL => ?_⟩
    have sL := @Same.new L _ (.lst []) nL
    have s03 := s02.trans sL
    have nL0 : H L = none := s02.free nL
    have mvF : ∀ {H2 : Hp} {v : V} {z : PyData}, Same H H2 → Dt Fa H v z → Dt (fun c => Fa c ∧ c ≠ L) H2 v z := fun s t => t.move fun a o f e => ⟨⟨f, ne_of_none e nL0⟩, s _ _ e⟩
    refine ⟨_, rfl, a, _, 3, _, rfl, rfl, SqT.of (s03 _ _ ha), rfl, a3, rfl, ⟨_, SqT.of (s03 _ _ ha3)⟩, for_tup (K := K) (a := a3) (xs := ys) (fun i σ H3 => Same H H3 ∧ ∃ (us : List V) (t : Option V), σ = [some (.ref a), some (.ref L), t, none] ∧ H3 L = some (.lst us) ∧ DtA (fun c => Fa c ∧ c ≠ L) H3 us ((ps.take i).map (kyP ka kb)) ∧ (ps.take i).all (pOk ka kb) = true)
      ⟨s03, [], none, rfl, upd_same, .nil, rfl⟩ (fun i σ H3 _ h => SqT.of (h.1 _ _ ha3)) ?_ ?_⟩
    · rintro i e σ H3 hi ⟨sm3, us, t, rfl, hL, dt, ok⟩
      obtain ⟨de, hde, dte⟩ := ra3.get hi
      have il : i < ys.length := (List.getElem?_eq_some_iff.mp hi).1
      have lu := dt.length
      rw [List.length_map, List.length_take] at lu
      have me := List.mem_of_getElem? hde
      have mz := szA_mem me
      have bad : ∀ H', Same H H' → pOk ka kb de = false → Q (.bl false) H' := fun H' s e => by
        have := q H' s
        have z : prs ka kb ps = false := by
          rw [prs, Bool.and_eq_false_iff]
          left
          rw [List.all_eq_false]
          exact ⟨de, me, by rw [e]; decide⟩
        rwa [z] at this
      have dte' := dte.keep sm3
      obtain ⟨tye, tyxe, _, _, k3e, _⟩ := tyD (K := K) dte'
      refine ⟨_, rfl, _, _, tye, _, _, rfl, .ty _, tyxe, k3e, _, rfl, ?_⟩
      cases ite : isTup de with
      | false => exact ifT rfl (bad _ sm3 (pOk_no ite))
      | true =>
      obtain ⟨es, rfl⟩ := isTup_of ite
      obtain ⟨b, zs, rfl, fb, hb, rb⟩ := dte.tupI
      have le := rb.length
      have sze := sz_tup es
      refine ifF rfl ⟨_, rfl, _, _, rfl, .inr ⟨_, SqT.of (sm3 _ _ hb), rfl⟩, rfl, _, rfl, ?_⟩
      have dle : ∀ z : Nat, decide (V.int ((zs.length : Nat) : Int) = V.int (z : Int)) = decide (es.length = z) := fun z => by
        rw [le]
        by_cases g : es.length = z
        · rw [decide_eq_true g, decide_eq_true (by rw [g])]
        · rw [decide_eq_false g, decide_eq_false fun y => g (by have := V.int.inj y; omega)]
      by_cases g2 : es.length = 2
      rotate_left
      · exact ifT (congrArg not ((dle 2).trans (decide_eq_false g2))) (bad _ sm3 (pOk_len g2))
      refine ifF (congrArg not ((dle 2).trans (decide_eq_true g2))) ?_
      obtain ⟨e1, e2, rfl⟩ : ∃ e1 e2, es = [e1, e2] := by
        match es, g2 with
        | [e1, e2], _ => exact ⟨_, _, rfl⟩
      obtain ⟨w1, w2, rfl, t1, t2⟩ := rb.two
      have z1 := szA_mem (show e1 ∈ [e1, e2] by simp)
      have z2 := szA_mem (show e2 ∈ [e1, e2] by simp)
      have ie := ib_tup.mp (hib3 _ me)
      have pe_ : pOk ka kb (.tuple [e1, e2]) = (isV ka e1 && isV kb e2) := rfl
      refine ⟨_, rfl, a, _, 1, _, rfl, rfl, SqT.of (sm3 _ _ ha), rfl, _, rfl, b, _, 0, _, rfl, rfl, SqT.of (sm3 _ _ hb), rfl, ?_⟩
      refine ⟨Fa, v1, w1, ka, e1, rfl, dk1.keep sm3, t1.keep sm3, f4, f2, f3, by omega, fun H4 s4 => ?_⟩
      have s34 := sm3.trans s4
      refine ⟨_, rfl, ?_⟩
      cases q1 : isV ka e1 with
      | false => exact ifT rfl (bad _ s34 (by rw [pe_, q1, Bool.false_and]))
      | true =>
      refine ifF rfl ?_
      refine ⟨_, rfl, a, _, 2, _, rfl, rfl, SqT.of (s34 _ _ ha), rfl, _, rfl, b, _, 1, _, rfl, rfl, SqT.of (s34 _ _ hb), rfl, ?_⟩
      refine ⟨Fa, v2, w2, kb, e2, rfl, dk2.keep s34, t2.keep s34, h4, h2, h3, by omega, fun H5 s5 => ?_⟩
      have s35 := s34.trans s5
      refine ⟨_, rfl, ?_⟩
      cases q2 : isV kb e2 with
      | false => exact ifT rfl (bad _ s35 (by rw [pe_, q1, q2, Bool.and_false]))
      | true =>
      refine ifF rfl ?_
      have vv1 := vv_of ka e1 q1 (ie e1 (by simp)) (by omega)
      have vv2 := vv_of kb e2 q2 (ie e2 (by simp)) (by omega)
      have hL5 := s5 _ _ (s4 _ _ hL)
      have hF' : ∀ {H6 : Hp}, Same H5 H6 → ∀ p, H6 p = none → Fa p ∧ p ≠ L := fun s p np => ⟨hF p (s35.free (s.free np)), fun z => by rw [z] at np; rw [s _ _ hL5] at np; cases np⟩
      refine ⟨_, rfl, .inl ⟨rfl, _, SqL.of hL5⟩, _, rfl, a, _, 1, _, rfl, rfl, SqT.of (s35 _ _ ha), rfl, _, rfl, b, _, 0, _, rfl, rfl, SqT.of (s35 _ _ hb), rfl, ?_⟩
      refine ⟨fun c => Fa c ∧ c ≠ L, v1, w1, ka, e1, _, rfl, hF' (Same.refl H5), mvF s35 dk1, mvF s35 t1, vv1, Nat.le_refl _, f4, f2, f3, fun z1 H6 s6 t6 => ?_⟩
      have s36 := s35.trans s6
      refine ⟨_, rfl, a, _, 2, _, rfl, rfl, SqT.of (s36 _ _ ha), rfl, _, rfl, b, _, 1, _, rfl, rfl, SqT.of (s36 _ _ hb), rfl, ?_⟩
      refine ⟨fun c => Fa c ∧ c ≠ L, v2, w2, kb, e2, _, rfl, hF' s6, mvF s36 dk2, mvF s36 t2, vv2, Nat.le_refl _, h4, h2, h3, fun z2 H7 s7 t7 => ?_⟩
      refine ⟨big _ (by show (2 : Nat) ≤ 1000; decide), fun p np => ?_⟩
      have s57 := s6.trans s7
      have hL7 := s57 _ _ hL5
      have npL : L ≠ p := ne_of_none hL7 np
      have lim : us.length ≤ 4000000 := by omega
      refine ⟨L, us, _, rfl, rfl, by rw [upd_ne npL]; exact hL7, Nat.lt_of_le_of_lt lim (by decide), ?_⟩
      have pF := hF' s57 p np
      have mv2 : ∀ {v : V} {z : PyData}, Dt (fun c => Fa c ∧ c ≠ L) H7 v z → Dt (fun c => Fa c ∧ c ≠ L) (upd (upd H7 p (.tup [z1, z2])) L (.lst (us ++ [.ref p]))) v z := fun t => t.move fun a o f e => ⟨f, by rw [upd_ne f.2, upd_ne (ne_of_none e np)]; exact e⟩
      have mv2A : ∀ {v : List V} {z : List PyData}, DtA (fun c => Fa c ∧ c ≠ L) H7 v z → DtA (fun c => Fa c ∧ c ≠ L) (upd (upd H7 p (.tup [z1, z2])) L (.lst (us ++ [.ref p]))) v z := fun t => t.move fun a o f e => ⟨f, by rw [upd_ne f.2, upd_ne (ne_of_none e np)]; exact e⟩
      refine ⟨fun c o e => ?_, us ++ [.ref p], _, rfl, upd_same, ?_, ?_⟩
      · have e2 := (s35.trans s57) _ _ e
        rw [upd_ne (ne_of_none e nL0), upd_ne (ne_of_none e2 np)]
        exact e2
      · rw [take_snoc hde, List.map_append]
        refine (mv2A (dt.keep (s4.trans (s5.trans s57)))).append (.cons ?_ .nil)
        exact .tup pF (by rw [upd_ne npL.symm]; exact upd_same) (.cons (mv2 (t6.keep s7)) (.cons (mv2 t7) .nil))
      · rw [take_snoc hde, List.all_append, ok]
        show (true && (pOk ka kb (.tuple [e1, e2]) && true)) = true
        rw [pe_, q1, q2]
        rfl
    · rintro σ H3 ⟨sm3, us, t, rfl, hL, dt, ok⟩
      rw [l3, List.take_length] at dt ok
      have lu := dt.length
      rw [List.length_map] at lu
      have nL3 : ∀ {H4 : Hp}, Same H3 H4 → H4 L = some (.lst us) := fun s => s _ _ hL
      have item : ∀ {H4 : Hp} (j : Nat), Same H3 H4 → j < ps.length → ∃ u x y, us[j]? = some u ∧ ps[j]? = some (.tuple [x, y]) ∧ Dt (fun c => Fa c ∧ c ≠ L) H4 u (.tuple [ky ka x, ky kb y]) ∧ VV 10000000 ka x ∧ VV 10000000 kb y := fun j s hj => by
        obtain ⟨p, hp⟩ : ∃ p, ps[j]? = some p := ⟨_, List.getElem?_eq_getElem hj⟩
        have mp := List.mem_of_getElem? hp
        obtain ⟨x, y, rfl, h1', h2'⟩ := pOk_ex (List.all_eq_true.mp ok p mp)
        obtain ⟨u, hu, tu⟩ := dt.at_ (map_at hp)
        have ie := ib_tup.mp (hib3 _ mp)
        have mz := szA_mem mp
        have sze := sz_tup [x, y]
        have z1 := szA_mem (show x ∈ [x, y] by simp)
        have z2 := szA_mem (show y ∈ [x, y] by simp)
        exact ⟨u, x, y, hu, hp, tu.keep s, vv_of ka x h1' (ie x (by simp)) (by omega), vv_of kb y h2' (ie y (by simp)) (by omega)⟩
      have hz : us.length ≤ 4000000 := by omega
      refine ⟨_, rfl, _, _, rfl, .inl ⟨_, SqL.of hL, rfl⟩, _, _, rfl, rfl, _, rfl, by omega, by omega, fun D nD => lc_range (lo := 0) (n := ((us.length : Int) - 1).toNat) (fun i H4 => Same H3 H4 ∧ H4 D = some (.lst (((List.range i).map fun j => plt ka kb (ps.getD j .none) (ps.getD (j + 1) .none)).map V.bl))) ⟨Same.new nD, upd_same⟩ ?_ ?_⟩
      · rintro i H4 hi ⟨s4, hD⟩
        have i1 : i + 1 < ps.length := by omega
        obtain ⟨u, x1, y1, hu, hp, tu, v1', v1''⟩ := item i s4 (by omega)
        obtain ⟨u2, x2, y2, hu2, hp2, tu2, v2', v2''⟩ := item (i + 1) s4 i1
        refine ⟨rfl, ?_⟩
        refine iteT (B := Same H3 H4 ∧ H4 D = some (.lst (((List.range (i + 1)).map fun j => plt ka kb (ps.getD j .none) (ps.getD (j + 1) .none)).map V.bl))) ?_
        refine ⟨_, rfl, _, rfl, L, us, _, _, rfl, rfl, SqL.of (nL3 s4), (by rw [Int.zero_add]; exact atI_nat hu), _, rfl, _, rfl, _, _, rfl, rfl, L, us, _, _, rfl, rfl, SqL.of (nL3 s4), (by
          rw [show ((0 : Int) + (i : Int) + 1) = ((i + 1 : Nat) : Int) by omega]
          exact atI_nat hu2), ?_⟩
        refine ⟨_, _, ka, kb, x1, y1, x2, y2, tu, tu2, v1', v1'', v2', v2'', f4, h4, ?_⟩
        refine ⟨_, hD, Nat.lt_of_le_of_lt (by rw [List.length_map, List.length_map, List.length_range]; omega : _ ≤ 4000000) (by decide), fun b o e2 => ?_, ?_⟩
        · rw [upd_ne (ne_of_none e2 nD)]
          exact s4 b o e2
        · rw [upd_same, List.range_succ, List.map_append, List.map_append]
          show _ = some (HO.lst (_ ++ [V.bl (plt ka kb (ps.getD i .none) (ps.getD (i + 1) .none))]))
          rw [getD_of hp, getD_of hp2]
          rfl
      · rintro H4 ⟨s4, hD⟩
        refine ⟨D, _, rfl, SqL.of hD, ?_⟩
        have e : ((List.range ((us.length : Int) - 1).toNat).map fun j => plt ka kb (ps.getD j .none) (ps.getD (j + 1) .none)).all id = prs ka kb ps := by
          rw [prs, ok, Bool.true_and, ascB, List.all_map, lu, show ((ps.length : Int) - 1).toNat = ps.length - 1 by omega]
          rfl
        rw [e]
        exact q H4 (sm3.trans s4)
end
end N3
namespace N3
open PySem PySem.Spec PyProof.Rows L2 KB
section
variable {K : PySem.W.Frag} {mg : Str → Option Value} {base : Heap} {P : Program} {w : World}
theorem isRow_ex {r : PyData} (h : isRow r = true) : ∃ x k1 k2 ps, r = .tuple [.str x, k1, k2, .tuple ps] ∧ x ∈ abc ∧ clN 100 k1 = true ∧ clN 100 k2 = true ∧ prs (toK 100 k1) (toK 100 k2) ps = true := by
  match r, h with
  | .tuple [.str x, k1, k2, .tuple ps], h =>
    rw [isRow_eq] at h
    (simp only [Bool.and_eq_true, decide_eq_true_eq] at h)
    exact ⟨x, k1, k2, ps, rfl, h.1, h.2.1, h.2.2.1, h.2.2.2⟩
def spIl : Sp := fun vs H Q _ => ∃ (F : Addr → Prop) (v : V) (d : PyData), vs = [v] ∧ (∀ p, H p = none → F p) ∧ Dt F H v d ∧ sz d ≤ 4000000 ∧ IB (bg + 1000) d ∧ ∀ H', Same H H' → Q (.bl (isRel d)) H'
theorem isRel_no {d : PyData} (h : isTup d = false) : isRel d = false := by
  cases d <;> first | rfl | cases h
abbrev nIl : List Str := ["_law_thing_here", "_law_row", "_law_spot"]
theorem sc_nIl : FnScope nIl ["_law_thing_here"] (defScope (top 60)) := ⟨rfl, rfl, rfl, by decide +kernel, rfl, by decide +kernel, by decide +kernel⟩
theorem ok_islink {f : Addr} {fd : FuncData} (F : FnP K "_law_is_link" (top 60) f fd) (T : Bl K mg) (hIr : Has P w K mg base "_law_is_row" ["_law_thing_here"] 103 spIr) : FnOk P w K mg base CX0 104 f fd ["_law_thing_here"] spIl := by
  obtain ⟨fIr, fdIr, kIr, gIr, bIr, GIr⟩ := hIr
  refine F.ok sc_nIl (fun vs H Q E h => ?_) (fun cdv A outer s H vs Q E hr h => ?_)
  · obtain ⟨F, v, d, rfl, _⟩ := h
    rfl
  · obtain ⟨Fa, v, d, rfl, hF, hd, hsz, hib, q⟩ := h
    have sc := sc_nIl
    have hrIr : Room 103 _ := hr
    refine ⟨_, PSs.nox (pss_cons (ps_if (PW.pt (pw_or (pt_not (pt_val (pe_callB call_isi (by rfl) T.isinstance (by decide +kernel) (pa_cons (pv 0) (pa_cons (pe_bltn (v := .ty "tuple") (by rfl) T.tuple (by decide +kernel) rfl) pa_nil))))) (pw_or1 (pt_not (pt_val (pe_callB (cr_all rfl) (by rfl) T.all (by decide +kernel) (pa_cons (pe_lc (own := [("_law_row", 1)]) (g := gName 1) (tt := tYes) (by rfl) sc.nd (pi_tup (pv 0)) (blkOk_by (own := [("_law_row", 1)]) (N := nIl) (sc := (defScope (top 60))) (by decide +kernel)) (fun _ _ _ _ _ => (pg_name (i := 1) sc.nd rfl (Or.inl rfl))) (fun _ _ _ _ _ => pts_nil) (fun _ _ _ _ _ => (pe_call GIr hrIr rfl gIr kIr bIr .nil pass0 (pa_cons (pv 1) pa_nil)))) pa_nil))))))) (pss_one (ps_ret pe_bl)) pss_nil) (pss_one (ps_ret (pe_callB (cr_all rfl) (by rfl) T.all (by decide +kernel) (pa_cons (pe_lc (own := [("_law_spot", 2)]) (g := gName 2) (tt := tYes) (by rfl) sc.nd (pi_range1 rfl T.range (pa_cons (pe_op op_sub (pe_callB call_len (by rfl) T.len (by decide +kernel) (pa_cons (pv 0) pa_nil)) pe_int) pa_nil)) (blkOk_by (own := [("_law_spot", 2)]) (N := nIl) (sc := (defScope (top 60))) (by decide +kernel)) (fun _ _ _ _ _ => (pg_name (i := 2) sc.nd rfl (Or.inl rfl))) (fun _ _ _ _ _ => pts_nil) (fun _ _ _ _ _ => (pe_cmpR op_lt_str (pe_ix (ixT (K := K) rfl) (pe_ix (ixT (K := K) rfl) (pv 0) (pv 2) (fun _ _ => rfl)) pe_int (fun _ _ => rfl)) (pe_ix (ixT (K := K) rfl) (pe_ix (ixT (K := K) rfl) (pv 0) (pe_op op_add (pv 2) pe_int) (fun _ _ => rfl)) pe_int (fun _ _ => rfl)) (nomark _)))) pa_nil))))), ?_⟩
    obtain ⟨ty, tyx, k1, k2, k3, k4⟩ := tyD (K := K) hd
    refine ⟨_, rfl, _, _, ty, _, _, rfl, .ty _, tyx, k3, _, rfl, ?_⟩
    cases it : isTup d with
    | false => exact ifT rfl (by have := q H (Same.refl H); rwa [isRel_no it] at this)
    | true =>
    obtain ⟨ds, rfl⟩ := isTup_of it
    obtain ⟨a, xs, rfl, fa, ha, ra⟩ := hd.tupI
    have ll := ra.length
    have sz0 := sz_tup ds
    have lz := szA_len ds
    have er : isRel (.tuple ds) = (ds.all isRow && nmAsc ds) := rfl
    rw [er] at q
    refine ifF rfl ?_
    refine ⟨_, rfl, a, rfl, ⟨_, SqT.of ha⟩, fun D nD => lc_tup (K := K) (a := a) (xs := xs) (fun i H2 => Same H H2 ∧ H2 D = some (.lst (((ds.take i).map isRow).map V.bl))) ⟨Same.new nD, upd_same⟩ (fun i H2 _ hP => SqT.of (hP.1 a _ ha)) ?_ ?_⟩
    · rintro i e H2 hi ⟨sm, hD⟩
      obtain ⟨de, hde, dte⟩ := ra.get hi
      have mz := szA_mem (List.mem_of_getElem? hde)
      refine ⟨rfl, ?_⟩
      refine iteT (B := Same H H2 ∧ H2 D = some (.lst (((ds.take (i + 1)).map isRow).map V.bl))) ?_
      refine ⟨_, rfl, Fa, e, de, rfl, fun p np => hF p (sm.free np), dte.keep sm, by omega, ib_tup.mp hib de (List.mem_of_getElem? hde), fun H3 s3 => ?_⟩
      refine ⟨_, s3 _ _ hD, Nat.lt_of_le_of_lt (by rw [List.length_map, List.length_map, List.length_take]; omega : _ ≤ 10000000) (by decide), fun b o e2 => ?_, ?_⟩
      · rw [upd_ne (ne_of_none e2 nD)]
        exact s3 b o (sm b o e2)
      · rw [upd_same, take_snoc hde, List.map_append, List.map_append]
        rfl
    · rintro H2 ⟨sm, hD⟩
      rw [ll, List.take_length] at hD
      refine ⟨D, _, rfl, SqL.of hD, _, rfl, ?_⟩
      have e : (ds.map isRow).all id = ds.all isRow := by
        rw [List.all_map]
        rfl
      rw [e]
      cases ok : ds.all isRow with
      | false =>
        refine ifT rfl ?_
        have := q H2 sm
        rw [ok, Bool.false_and] at this
        exact this
      | true =>
      refine ifF rfl ?_
      rw [ok, Bool.true_and] at q
      have ha2 := sm _ _ ha
      have item : ∀ {H4 : Hp} (j : Nat), Same H2 H4 → j < ds.length → ∃ b x ys d, xs[j]? = some (.ref b) ∧ H4 b = some (.tup (.str x :: ys)) ∧ ds[j]? = some d ∧ nmOf d = x := fun j s hj => by
        obtain ⟨p, hp⟩ : ∃ p, ds[j]? = some p := ⟨_, List.getElem?_eq_getElem hj⟩
        obtain ⟨x, k1, k2, ps, rfl, _⟩ := isRow_ex (List.all_eq_true.mp ok p (List.mem_of_getElem? hp))
        obtain ⟨u, hu, tu⟩ := ra.at_ hp
        obtain ⟨b, ys, rfl, fb, hb, rb⟩ := tu.tupI
        cases rb with
        | cons h0 r =>
          have e0 := h0.strI
          subst e0
          exact ⟨b, x, _, _, hu, s _ _ (sm _ _ hb), hp, rfl⟩
      refine ⟨_, rfl, _, _, rfl, .inr ⟨_, SqT.of ha2, rfl⟩, _, _, rfl, rfl, _, rfl, by omega, by omega, fun D' nD' => lc_range (lo := 0) (n := ((xs.length : Int) - 1).toNat) (fun i H4 => Same H2 H4 ∧ H4 D' = some (.lst (((List.range i).map fun j => decide ((nmOf (ds.getD j .none)).cps.toList < (nmOf (ds.getD (j + 1) .none)).cps.toList)).map V.bl))) ⟨Same.new nD', upd_same⟩ ?_ ?_⟩
      · rintro i H4 hi ⟨s4, hD4⟩
        have i1 : i + 1 < ds.length := by omega
        obtain ⟨b1, x1, ys1, e1, hu1, hb1, hp1, hn1⟩ := item i s4 (by omega)
        obtain ⟨b2, x2, ys2, e2, hu2, hb2, hp2, hn2⟩ := item (i + 1) s4 i1
        refine ⟨rfl, ?_⟩
        refine iteT (B := Same H2 H4 ∧ H4 D' = some (.lst (((List.range (i + 1)).map fun j => decide ((nmOf (ds.getD j .none)).cps.toList < (nmOf (ds.getD (j + 1) .none)).cps.toList)).map V.bl))) ?_
        refine ⟨_, rfl, _, rfl, a, xs, _, _, rfl, rfl, SqT.of (s4 _ _ ha2), (by rw [Int.zero_add]; exact atI_nat hu1), b1, _, 0, _, rfl, rfl, SqT.of hb1, atI_nat (j := 0) rfl, _, rfl, _, rfl, _, _, rfl, rfl, a, xs, _, _, rfl, rfl, SqT.of (s4 _ _ ha2), (by
          rw [show ((0 : Int) + (i : Int) + 1) = ((i + 1 : Nat) : Int) by omega]
          exact atI_nat hu2), b2, _, 0, _, rfl, rfl, SqT.of hb2, atI_nat (j := 0) rfl, x1, x2, rfl, rfl, ?_⟩
        refine ⟨_, hD4, Nat.lt_of_le_of_lt (by rw [List.length_map, List.length_map, List.length_range]; omega : _ ≤ 4000000) (by decide), fun b o e2 => ?_, ?_⟩
        · rw [upd_ne (ne_of_none e2 nD')]
          exact s4 b o e2
        · rw [upd_same, List.range_succ, List.map_append, List.map_append]
          show _ = some (HO.lst (_ ++ [V.bl (decide ((nmOf (ds.getD i .none)).cps.toList < (nmOf (ds.getD (i + 1) .none)).cps.toList))]))
          rw [getD_of hp1, getD_of hp2, hn1, hn2]
      · rintro H4 ⟨s4, hD4⟩
        refine ⟨D', _, rfl, SqL.of hD4, ?_⟩
        have e : ((List.range ((xs.length : Int) - 1).toNat).map fun j => decide ((nmOf (ds.getD j .none)).cps.toList < (nmOf (ds.getD (j + 1) .none)).cps.toList)).all id = nmAsc ds := by
          rw [nmAsc, List.all_map, ll, show ((ds.length : Int) - 1).toNat = ds.length - 1 by omega]
          rfl
        rw [e]
        exact q H4 (sm.trans s4)
def spIsg : Sp := fun vs H Q _ => ∃ (F : Addr → Prop) (v : V) (d : PyData), vs = [v] ∧ Dt F H v d ∧ sz d ≤ 4000000 ∧ IB (bg + 1000) d ∧ isRel d = true ∧ Q (.bl (isSgl d)) H
theorem isRel_ex {d : PyData} (h : isRel d = true) : ∃ rs, d = .tuple rs ∧ rs.all isRow = true ∧ nmAsc rs = true := by
  match d, h with
  | .tuple rs, h =>
    obtain ⟨h1, h2⟩ := Bool.and_eq_true_iff.mp (show (rs.all isRow && nmAsc rs) = true from h)
    exact ⟨rs, rfl, h1, h2⟩
theorem row_fst {x : Str} {k1 k2 : PyData} {ps : List PyData} {j : Nat} (hr : prs (toK 100 k1) (toK 100 k2) ps = true) (c1 : clN 100 k1 = true) (hz : szA ps ≤ 4000000) (hb : ∀ p ∈ ps, IB (bg + 1000) p) (hj : j < ps.length) : ∃ x y, ps[j]? = some (.tuple [x, y]) ∧ x.plain = true ∧ x.depth ≤ 100 := by
  obtain ⟨p, hp⟩ : ∃ p, ps[j]? = some p := ⟨_, List.getElem?_eq_getElem hj⟩
  have mp := List.mem_of_getElem? hp
  obtain ⟨ok, _⟩ := Bool.and_eq_true_iff.mp (show (ps.all (pOk (toK 100 k1) (toK 100 k2)) && ascB (toK 100 k1) (toK 100 k2) ps) = true from hr)
  obtain ⟨x, y, rfl, h1', h2'⟩ := pOk_ex (List.all_eq_true.mp ok p mp)
  have ie := ib_tup.mp (hb _ mp)
  have mz := szA_mem mp
  have sze := sz_tup [x, y]
  have z1 := szA_mem (show x ∈ [x, y] by simp)
  have vv := vv_of _ x h1' (ie x (by simp)) (by omega)
  have dp := vv_depth vv
  have d4 := (clN_ok 100 k1 c1).2.2.2
  exact ⟨x, y, hp, vv_plain vv, by omega⟩
abbrev nIsg : List Str := ["_law_link_here", "_law_row", "_law_spot"]
theorem sc_nIsg : FnScope nIsg ["_law_link_here"] (defScope (top 61)) := ⟨rfl, rfl, rfl, by decide +kernel, rfl, by decide +kernel, by decide +kernel⟩
theorem ok_single {f : Addr} {fd : FuncData} (F : FnP K "_law_is_single" (top 61) f fd) (T : Bl K mg) : FnOk P w K mg base CX0 1 f fd ["_law_link_here"] spIsg := by
  refine F.ok sc_nIsg (fun vs H Q E h => ?_) (fun cdv A outer s H vs Q E hr h => ?_)
  · obtain ⟨F, v, d, rfl, _⟩ := h
    rfl
  · obtain ⟨Fa, v, d, rfl, hd, hsz, hib, rel, q⟩ := h
    have sc := sc_nIsg
    refine ⟨_, PSs.nox (pss_cons (ps_for PassesOwn.never rfl (pi_tup (pv 0)) (pg_name (i := 1) sc.nd rfl (Or.inl rfl)) (pss_one (ps_for PassesOwn.never rfl (pi_range1 rfl T.range (pa_cons (pe_op op_sub (pe_callB call_len (by rfl) T.len (by decide +kernel) (pa_cons (pe_ix ix_tup (pv 1) pe_int (fun _ _ => rfl)) pa_nil)) pe_int) pa_nil)) (pg_name (i := 2) sc.nd rfl (Or.inl rfl)) (pss_one (ps_if (pt_cmpR (op_eqVV T.sys hr) (pe_ix ix_tup (pe_ix ix_tup (pe_ix ix_tup (pv 1) pe_int (fun _ _ => rfl)) (pv 2) (fun _ _ => rfl)) pe_int (fun _ _ => rfl)) (pe_ix ix_tup (pe_ix ix_tup (pe_ix ix_tup (pv 1) pe_int (fun _ _ => rfl)) (pe_op op_add (pv 2) pe_int) (fun _ _ => rfl)) pe_int (fun _ _ => rfl)) (nomark _)) (pss_one (ps_ret pe_bl)) pss_nil))))) (pss_one (ps_ret pe_bl))), ?_⟩
    obtain ⟨ds, rfl, ok, _⟩ := isRel_ex rel
    obtain ⟨a, xs, rfl, fa, ha, ra⟩ := hd.tupI
    have ll := ra.length
    have sz0 := sz_tup ds
    have lz := szA_len ds
    have es : isSgl (.tuple ds) = ds.all fun r => sgl1 (prsOf r) := rfl
    rw [es] at q
    refine ⟨_, rfl, a, rfl, ⟨_, SqT.of ha⟩, for_tup (K := K) (a := a) (xs := xs) (fun i σ H3 => H3 = H ∧ (∃ t1 t2, σ = [some (.ref a), t1, t2]) ∧ ((ds.take i).all fun r => sgl1 (prsOf r)) = true)
      ⟨rfl, ⟨none, none, rfl⟩, rfl⟩ (fun i σ H3 _ h => by rw [h.1]; exact SqT.of ha) ?_ ?_⟩
    · rintro i e σ H3 hi ⟨rfl, ⟨t1, t2, rfl⟩, sofar⟩
      obtain ⟨de, hde, dte⟩ := ra.get hi
      have me := List.mem_of_getElem? hde
      have mz := szA_mem me
      obtain ⟨x, k1, k2, ps, rfl, gx, c1, c2, pr⟩ := isRow_ex (List.all_eq_true.mp ok de me)
      obtain ⟨b, ys, rfl, fb, hb, rb⟩ := dte.tupI
      obtain ⟨v0, v1, v2, v3, rfl, r3⟩ : ∃ v0 v1 v2 v3, ys = [v0, v1, v2, v3] ∧ Dt Fa H3 v3 (.tuple ps) := by
        cases rb with
        | cons r0 r =>
          obtain ⟨y1, y2, y3, rfl, r1, r2, r3⟩ := r.three
          exact ⟨_, _, _, _, rfl, r3⟩
      obtain ⟨b3, zs, rfl, fb3, hb3, rb3⟩ := r3.tupI
      have l3 := rb3.length
      have szr := sz_tup [.str x, k1, k2, .tuple ps]
      have mp := szA_mem (show PyData.tuple ps ∈ [.str x, k1, k2, .tuple ps] by simp)
      have szp := sz_tup ps
      have lzp := szA_len ps
      have ibp := ib_tup.mp (ib_tup.mp (ib_tup.mp hib _ me) (.tuple ps) (by simp))
      have item : ∀ j, j < ps.length → ∃ c x y, zs[j]? = some (.ref c) ∧ ps[j]? = some (.tuple [x, y]) ∧ x.plain = true ∧ x.depth ≤ 100 ∧ ∃ u w, H3 c = some (.tup [u, w]) ∧ Dt Fa H3 u x := fun j hj => by
        obtain ⟨x, y, hp, pl, dp⟩ := row_fst (x := x) (j := j) pr c1 (by omega) ibp hj
        obtain ⟨u, hu, tu⟩ := rb3.at_ hp
        obtain ⟨c, ws, rfl, fc, hc, rc⟩ := tu.tupI
        obtain ⟨u, w, rfl, t1, t2⟩ := rc.two
        exact ⟨c, x, y, hu, hp, pl, dp, u, w, hc, t1⟩
      refine ⟨_, rfl, b, _, 3, _, rfl, rfl, SqT.of hb, rfl, _, _, rfl, .inr ⟨_, SqT.of hb3, rfl⟩, _, _, rfl, rfl, _, rfl, by omega, by omega, for_range (lo := 0) (n := ((zs.length : Int) - 1).toNat) (fun j σ H4 => H4 = H3 ∧ (∃ t2, σ = [some (.ref a), some (.ref b), t2]) ∧ ((List.range j).all fun i => !PyData.eqv (fstD (ps.getD i .none)) (fstD (ps.getD (i + 1) .none))) = true)
        ⟨rfl, ⟨_, rfl⟩, rfl⟩ ?_ ?_⟩
      · rintro j σ H4 hj ⟨rfl, ⟨t2, rfl⟩, so⟩
        have j1 : j + 1 < ps.length := by omega
        obtain ⟨c1', x1, y1, hu1, hp1, pl1, dp1, u1, w1, hc1, tu1⟩ := item j (by omega)
        obtain ⟨c2', x2, y2, hu2, hp2, pl2, dp2, u2, w2, hc2, tu2⟩ := item (j + 1) j1
        have ev : (!PyData.eqv (fstD (ps.getD j .none)) (fstD (ps.getD (j + 1) .none))) = !PyData.eqv x1 x2 := by
          rw [getD_of hp1, getD_of hp2]
          rfl
        refine ⟨_, rfl, b, _, 3, _, rfl, rfl, SqT.of hb, rfl, _, rfl, b3, zs, _, _, rfl, rfl, SqT.of hb3, (by rw [Int.zero_add]; exact atI_nat hu1), c1', _, 0, _, rfl, rfl, SqT.of hc1, rfl, ?_⟩
        refine ⟨_, rfl, b, _, 3, _, rfl, rfl, SqT.of hb, rfl, _, rfl, _, _, rfl, rfl, b3, zs, _, _, rfl, rfl, SqT.of hb3, (by
          rw [show ((0 : Int) + (j : Int) + 1) = ((j + 1 : Nat) : Int) by omega]
          exact atI_nat hu2), c2', _, 0, _, rfl, rfl, SqT.of hc2, rfl, ?_⟩
        refine ⟨Fa, x1, x2, tu1, tu2, pl1, pl2, by omega, _, rfl, ?_⟩
        cases eq : PyData.eqv x1 x2 with
        | true =>
          refine ifT rfl ?_
          have z : (ds.all fun r => sgl1 (prsOf r)) = false := by
            rw [List.all_eq_false]
            refine ⟨_, me, ?_⟩
            have : sgl1 ps = false := by
              rw [sgl1]
              exact range_all_false (i := j) (by omega) (by rw [ev, eq]; rfl)
            show ¬ sgl1 ps = true
            rw [this]
            decide
          rw [z] at q
          exact q
        | false =>
          refine ifF rfl ⟨rfl, ⟨_, rfl⟩, ?_⟩
          rw [List.range_succ, List.all_append, so]
          show (true && ((!PyData.eqv (fstD (ps.getD j .none)) (fstD (ps.getD (j + 1) .none))) && true)) = true
          rw [ev, eq]
          rfl
      · rintro σ H4 ⟨rfl, ⟨t2, rfl⟩, so⟩
        refine ⟨rfl, ⟨_, _, rfl⟩, ?_⟩
        rw [take_snoc hde, List.all_append, sofar]
        show (true && (sgl1 ps && true)) = true
        have : sgl1 ps = true := by
          rw [sgl1]
          rw [show ((zs.length : Int) - 1).toNat = ps.length - 1 by omega] at so
          exact so
        rw [this]
        rfl
    · rintro σ H3 ⟨rfl, ⟨t1, t2, rfl⟩, sofar⟩
      rw [ll, List.take_length] at sofar
      rw [sofar] at q
      exact q
end
end N3
namespace N3
open PySem PySem.Spec PyProof.Rows L2 KB
section
variable {K : PySem.W.Frag} {mg : Str → Option Value} {base : Heap} {P : Program} {w : World}
theorem isiC {X : Cx} {K : PySem.W.Frag} (h : X.K = K) : CallR X (.builtin "isinstance") (rIsi K) := by
  rw [← h]
  exact call_isi
def trB : Kd → Bool → Bool
  | .num, h => !h
  | .unit, _ => true
  | .var _, _ => true
  | .lst a, h => !h && trB a h
  | .pair a b, h => trB a h && trB b h
  | .eith a b, h => trB a h && trB b h
  | .fn a b, h => !h && (trB a true && trB b false)
def prt : Kd → List (Str ⊕ Kd)
  | .num => []
  | .unit => []
  | .var x => [.inl x]
  | .lst a => [.inr a]
  | .pair a b => [.inr a, .inr b]
  | .eith a b => [.inr a, .inr b]
  | .fn a b => [.inr a, .inr b]
def pd : Str ⊕ Kd → PyData
  | .inl x => .str x
  | .inr k => k.d
theorem kd_prt (k : Kd) : k.d = .tuple (.str k.word :: (prt k).map pd) := by cases k <;> rfl
theorem kd_isTup (k : Kd) : isTup k.d = true := by cases k <;> rfl
def pk (f : Kd → Bool) : Str ⊕ Kd → Option Bool
  | .inl _ => none
  | .inr k => some (f k)
theorem prt_dep {k c : Kd} (h : Sum.inr c ∈ prt k) : c.dep + 1 ≤ k.dep := by
  cases k <;> simp only [prt, List.mem_cons, List.not_mem_nil, or_false, Sum.inr.injEq, reduceCtorEq] at h
  all_goals first
    | (subst h; exact Nat.le_refl _)
    | (rcases h with h | h <;> subst h <;> simp only [Kd.dep] <;> omega)
theorem word_home (k : Kd) : inV (.str k.word) [V.str "num", V.str "list", V.str "fun"] = (match k with | .num => true | .lst _ => true | .fn _ _ => true | _ => false) := by cases k <;> rfl
theorem tr_parts {k : Kd} {h : Bool} (nf : ∀ a b, k ≠ .fn a b) (nh : (h && inV (.str k.word) [V.str "num", V.str "list", V.str "fun"]) = false) : ((prt k).filterMap (pk fun c => trB c h)).all id = trB k h := by
  rw [word_home] at nh
  cases k with
  | num => cases h <;> first | rfl | cases nh
  | unit => rfl
  | var x => rfl
  | lst a => cases h <;> first | (show (trB a false && true) = (true && trB a false); rw [Bool.and_true, Bool.true_and]) | cases nh
  | pair a b => show (trB a h && (trB b h && true)) = (trB a h && trB b h); rw [Bool.and_true]
  | eith a b => show (trB a h && (trB b h && true)) = (trB a h && trB b h); rw [Bool.and_true]
  | fn a b => exact absurd rfl (nf a b)
def spItr (n : Nat) : Sp := fun vs H Q _ => ∃ (F : Addr → Prop) (kv : V) (k : Kd) (h : Bool), vs = [kv, .bl h] ∧ (∀ p, H p = none → F p) ∧ Dt F H kv k.d ∧ k.dep ≤ n ∧ ∀ H', Same H H' → Q (.bl (trB k h)) H'
abbrev nItr : List Str := ["_law_form_here", "_law_is_home", "_law_part"]
theorem sc_nItr : FnScope nItr ["_law_form_here", "_law_is_home"] (defScope (top 62)) := ⟨rfl, rfl, rfl, by decide +kernel, rfl, by decide +kernel, by decide +kernel⟩
theorem itr_body (n : Nat) {f : Addr} {fd : FuncData} {spR : Sp} (F : FnP K "_law_is_tried" (top 62) f fd) (T : Bl K mg)
    (gR : mg "_law_is_tried" = some (.ref f)) (bR : Binds K fd ["_law_form_here", "_law_is_home"] []) (GR : FnOk P w K mg base CX0 n f fd ["_law_form_here", "_law_is_home"] spR)
    (hR : ∀ m, n = m + 1 → ∀ vs H Q, spItr m vs H Q E0 → spR vs H Q E0) : FnOk P w K mg base CX0 (n + 1) f fd ["_law_form_here", "_law_is_home"] (spItr n) := by
  refine F.ok sc_nItr (fun vs H Q E h => ?_) (fun cdv A outer s H vs Q E hr h => ?_)
  · obtain ⟨F, kv, k, b, rfl, _⟩ := h
    rfl
  · obtain ⟨Fa, kv, k, h, rfl, hF, hk, hdp, q⟩ := h
    have sc := sc_nItr
    have hrR : Room n _ := hr
    refine ⟨_, PSs.nox (pss_cons (ps_if (PW.pt (pw_and (pt_val (pv 1)) (pw_and1 (pt_cmpR op_in_seq (pe_ix ix_tup (pv 0) pe_int (fun _ _ => rfl)) (pe_tup (pa_cons pe_str (pa_cons pe_str (pa_cons pe_str pa_nil)))) (by rfl))))) (pss_one (ps_ret pe_bl)) pss_nil) (pss_cons (ps_if (pt_cmpR op_eq (pe_ix ix_tup (pv 0) pe_int (fun _ _ => rfl)) pe_str (nomark _)) (pss_one (ps_ret (pe_and (pe_call GR hrR rfl gR F.kp bR .nil pass0 (pa_cons (pe_ix ix_tup (pv 0) pe_int (fun _ _ => rfl)) (pa_cons pe_bl pa_nil))) (pe_one (pe_call GR hrR rfl gR F.kp bR .nil pass0 (pa_cons (pe_ix ix_tup (pv 0) pe_int (fun _ _ => rfl)) (pa_cons pe_bl pa_nil))))))) pss_nil) (pss_one (ps_ret (pe_callB (cr_all rfl) (by rfl) T.all (by decide +kernel) (pa_cons (pe_lc (own := [("_law_part", 2)]) (g := gName 2) (by rfl) sc.nd (pi_tup (pe_slice sl_tupA (pv 0) (po_some pe_int) po_none)) (blkOk_by (own := [("_law_part", 2)]) (N := nItr) (sc := (defScope (top 62))) (by decide +kernel)) (fun _ _ _ _ _ => (pg_name (i := 2) sc.nd rfl (Or.inl rfl))) (fun _ _ _ _ _ => (pts_one (pt_val (pe_callB (isiC (K := K) rfl) (by rfl) T.isinstance (by decide +kernel) (pa_cons (pv 2) (pa_cons (pe_bltn (v := .ty "tuple") (by rfl) T.tuple (by decide +kernel) rfl) pa_nil)))))) (fun _ _ _ _ _ => (pe_call GR hrR rfl gR F.kp bR .nil pass0 (pa_cons (pv 2) (pa_cons (pv 1) pa_nil))))) pa_nil)))))), ?_⟩
    have big : ∀ k : Nat, k ≤ 1000 → k ≤ sizeLine := fun k h => Nat.le_of_lt (small1000 h)
    obtain ⟨m, rfl⟩ : ∃ m, n = m + 1 := ⟨n - 1, by have := Kd.dep_pos k; omega⟩
    have no : ∀ {x y : Str}, x ≠ y → decide (V.str x = V.str y) = false := fun h => decide_eq_false fun z => h (V.str.inj z)
    rw [kd_prt] at hk
    refine seq_ifR (R := fun b H1 => Same H H1 ∧ b = (h && inV (.str k.word) [V.str "num", V.str "list", V.str "fun"])) (fun Q' hq => ?_) (fun H1 r => ?_) (fun H1 r => ?_)
    · obtain ⟨a, xs, rfl, fa, ha, ra⟩ := hk.tupI
      cases ra with
      | @cons v0 ys _ _ r0 ra =>
      have e0 := r0.strI
      subst e0
      refine ⟨_, rfl, _, rfl, ?_⟩
      cases h with
      | false => exact ifF rfl (hq _ _ ⟨Same.refl H, rfl⟩)
      | true =>
      refine ifT rfl ⟨_, rfl, a, _, 0, _, rfl, rfl, SqT.of ha, atI_nat (j := 0) rfl, big _ (by show (3 : Nat) ≤ 1000; decide), fun u nu => ?_⟩
      have sm := @Same.new u _ (.tup [.str "num", .str "list", .str "fun"]) nu
      exact ⟨u, _, rfl, .inr (SqT.of upd_same), rfl, flat_strs ["num", "list", "fun"], _, rfl, hq _ _ ⟨sm, rfl⟩⟩
    · obtain ⟨s1, e⟩ := r
      have e' := e.symm
      rw [Bool.and_eq_true] at e'
      have z : trB k h = false := by
        rw [word_home] at e'
        obtain ⟨rfl, e2⟩ := e'
        cases k <;> first | rfl | cases e2
      have := q H1 s1
      rw [z] at this
      exact this
    · obtain ⟨s1, e⟩ := r
      have hk1 := hk.keep s1
      have hF1 : ∀ p, H1 p = none → Fa p := fun p np => hF p (s1.free np)
      replace q : ∀ H', Same H1 H' → Q (.bl (trB k h)) H' := fun H' s => q H' (s1.trans s)
      clear hk hF
      obtain ⟨a, xs, rfl, fa, ha, ra⟩ := hk1.tupI
      cases ra with
      | @cons v0 ys _ _ r0 ra =>
      have e0 := r0.strI
      subst e0
      by_cases hf : ∃ x y, k = .fn x y
      · obtain ⟨x, y, rfl⟩ := hf
        have hdp' : max x.dep y.dep + 1 ≤ m + 1 := hdp
        obtain ⟨v1, v2, rfl, r1, r2⟩ := ra.two
        have h0 : h = false := by
          cases h with
          | false => rfl
          | true => cases e
        subst h0
        refine ⟨_, rfl, a, _, 0, _, rfl, rfl, SqT.of ha, rfl, rfl, _, rfl, ifT (decide_eq_true rfl) ?_⟩
        refine ⟨_, rfl, a, _, 1, _, rfl, rfl, SqT.of ha, rfl, ?_⟩
        refine hR m rfl _ _ _ ⟨Fa, v1, x, true, rfl, hF1, r1, by omega, fun H2 s2 => ?_⟩
        have ev : trB (.fn x y) false = (trB x true && trB y false) := rfl
        rw [ev] at q
        cases c1 : trB x true with
        | false =>
          refine ⟨_, rfl, ifF rfl ?_⟩
          have := q H2 s2
          rw [c1] at this
          exact this
        | true =>
          refine ⟨_, rfl, ifT rfl ⟨_, rfl, a, _, 2, _, rfl, rfl, SqT.of (s2 _ _ ha), rfl, ?_⟩⟩
          refine hR m rfl _ _ _ ⟨Fa, v2, y, false, rfl, fun p np => hF1 p (s2.free np), r2.keep s2, by omega, fun H3 s3 => ?_⟩
          have := q H3 (s2.trans s3)
          rw [c1, Bool.true_and] at this
          exact this
      · have nf : ∀ x y, k ≠ .fn x y := fun x y z => hf ⟨x, y, z⟩
        have nw : k.word ≠ "fun" := by
          cases k with
          | num => exact (by decide : ("num" : Str) ≠ "fun")
          | unit => exact (by decide : ("unit" : Str) ≠ "fun")
          | var x => exact (by decide : ("var" : Str) ≠ "fun")
          | lst x => exact (by decide : ("list" : Str) ≠ "fun")
          | pair x y => exact (by decide : ("pair" : Str) ≠ "fun")
          | eith x y => exact (by decide : ("either" : Str) ≠ "fun")
          | fn x y => exact absurd rfl (nf _ _)
        refine ⟨_, rfl, a, _, 0, _, rfl, rfl, SqT.of ha, atI_nat (j := 0) rfl, rfl, _, rfl, ifF (no nw) ?_⟩
        refine slC (K := K) 1 hF1 rfl hk1 fun v2 H2 s2 d2 => ?_
        rw [show (PyData.str k.word :: (prt k).map pd).drop 1 = (prt k).map pd from rfl] at d2
        obtain ⟨b, zs, rfl, fb, hb, rb⟩ := d2.tupI
        have lb := rb.length
        rw [List.length_map] at lb
        have l2 : (prt k).length ≤ 2 := by cases k <;> simp [prt]
        refine ⟨b, rfl, ⟨_, SqT.of hb⟩, fun D nD => lc_tup (K := K) (a := b) (xs := zs) (fun i H3 => Same H2 H3 ∧ H3 D = some (.lst ((((prt k).take i).filterMap (pk fun c => trB c h)).map V.bl))) ⟨Same.new nD, upd_same⟩ (fun i H3 _ hP => SqT.of (hP.1 b _ hb)) ?_ ?_⟩
        · rintro i e' H3 hi ⟨sm, hD⟩
          obtain ⟨de, hde, dte⟩ := rb.get hi
          obtain ⟨p, hp, rfl⟩ := at_map hde
          have dte' := dte.keep sm
          obtain ⟨tye, tyxe, _, _, k3e, _⟩ := tyD (K := K) dte'
          refine ⟨rfl, ?_⟩
          refine ⟨_, rfl, _, _, tye, _, _, rfl, .ty _, tyxe, k3e, _, rfl, ?_⟩
          cases p with
          | inl x =>
            refine ifF rfl ⟨sm, ?_⟩
            rw [take_snoc hp, List.filterMap_append]
            show _ = some (HO.lst ((_ ++ []).map V.bl))
            rw [List.append_nil]
            exact hD
          | inr c =>
            have cd := prt_dep (List.mem_of_getElem? hp)
            refine ifT (kd_isTup c) ⟨_, rfl, _, rfl, ?_⟩
            refine hR m rfl _ _ _ ⟨Fa, e', c, h, rfl, fun p np => hF1 p (s2.free (sm.free np)), dte', by omega, fun H4 s4 => ?_⟩
            refine ⟨_, s4 _ _ hD, small1000 ?_, fun b o e2 => ?_, ?_⟩
            · have f1 := List.length_filterMap_le (pk fun c => trB c h) ((prt k).take i)
              rw [List.length_take] at f1
              rw [List.length_map]
              omega
            · rw [upd_ne (ne_of_none e2 nD)]
              exact s4 b o (sm b o e2)
            · rw [upd_same, take_snoc hp, List.filterMap_append, List.map_append]
              rfl
        · rintro H3 ⟨sm, hD⟩
          rw [lb, List.take_length] at hD
          refine ⟨D, _, rfl, SqL.of hD, ?_⟩
          rw [tr_parts nf e.symm]
          exact q H3 (s2.trans sm)
theorem ok_tried {f : Addr} {fd : FuncData} (F : FnP K "_law_is_tried" (top 62) f fd) (T : Bl K mg)
    (gR : mg "_law_is_tried" = some (.ref f)) (bR : Binds K fd ["_law_form_here", "_law_is_home"] []) : ∀ n : Nat, FnOk P w K mg base CX0 (n + 1) f fd ["_law_form_here", "_law_is_home"] (spItr n)
  | 0 => itr_body 0 (spR := fun _ _ _ _ => False) F T gR bR ⟨fun _ _ _ _ h => h.elim, fun _ _ _ _ _ _ _ _ _ _ _ _ _ h => h.elim⟩ fun m e => by cases e
  | n + 1 => itr_body (n + 1) F T gR bR (ok_tried F T gR bR n) fun m e => by cases e; exact fun _ _ _ h => h
end
end N3
namespace N3
open PySem PySem.Spec PyProof.Rows L2 KB
section
variable {K : PySem.W.Frag} {mg : Str → Option Value} {base : Heap} {P : Program} {w : World}
def twr : Nat → Kd
  | 0 => .unit
  | n + 1 => .lst (twr n)
theorem twr_dep : ∀ n, (twr n).dep = n + 1
  | 0 => rfl
  | n + 1 => by show (twr n).dep + 1 = _; rw [twr_dep n]
theorem twr_ok : ∀ n, (twr n).closed = true ∧ (twr n).noFn = true
  | 0 => ⟨rfl, rfl⟩
  | n + 1 => twr_ok n
theorem twr_sz : ∀ n, sz (twr n).d ≤ 30 + 20 * n
  | 0 => by decide +kernel
  | n + 1 => by
    have h := twr_sz n
    have e : sz (twr (n + 1)).d = sz (.tuple [.str "list", (twr n).d]) := rfl
    have w := sz_word "list" (by decide +kernel)
    rw [e, sz_tup, szA, szA, szA]
    omega
theorem twr_ib (B : Nat) : ∀ n, IB B (twr n).d
  | 0 => ib_tup.mpr fun x hx => by
    rw [List.mem_singleton.mp hx, IB]
    exact True.intro
  | n + 1 => ib_tup.mpr fun x hx => by
    (simp only [List.mem_cons, List.not_mem_nil, or_false] at hx)
    rcases hx with rfl | rfl
    · rw [IB]; exact True.intro
    · exact twr_ib B n
def spTw3 : Sp := fun vs H Q _ => ∃ (n : Nat), vs = [.int ((n + 1 : Nat) : Int)] ∧ n ≤ 200 ∧ ∀ v H', Same H H' → Dt (New H) H' v (twr n).d → Q v H'
abbrev nTow3 : List Str := ["_law_deep", "_law_form_here", "_law_step"]
theorem sc_nTow3 : FnScope nTow3 ["_law_deep"] (defScope (top 63)) := ⟨rfl, rfl, rfl, by decide +kernel, rfl, by decide +kernel, by decide +kernel⟩
theorem ok_tower {f : Addr} {fd : FuncData} (F : FnP K "_law_tower" (top 63) f fd) (T : Bl K mg) : FnOk P w K mg base CX0 1 f fd ["_law_deep"] spTw3 := by
  refine F.ok sc_nTow3 (fun vs H Q E h => ?_) (fun cdv A outer s H vs Q E hr h => ?_)
  · obtain ⟨n, rfl, _⟩ := h
    rfl
  · obtain ⟨n, rfl, hn, q⟩ := h
    have sc := sc_nTow3
    refine ⟨_, PSs.nox (pss_cons (ps_set (i := 1) sc.nd rfl (Or.inl rfl) (pe_tup (pa_cons pe_str pa_nil))) (pss_cons (ps_for PassesOwn.never rfl (pi_range1 rfl T.range (pa_cons (pe_op op_sub (pv 0) pe_int) pa_nil)) (pg_name (i := 2) sc.nd rfl (Or.inl rfl)) (pss_one (ps_set (i := 1) sc.nd rfl (Or.inl rfl) (pe_tup (pa_cons pe_str (pa_cons (pv 1) pa_nil)))))) (pss_one (ps_ret (pv 1))))), ?_⟩
    have big : ∀ k : Nat, k ≤ 1000 → k ≤ sizeLine := fun k h => Nat.le_of_lt (small1000 h)
    refine ⟨big _ (by show (1 : Nat) ≤ 1000; decide), fun p np => ?_⟩
    refine ⟨_, rfl, _, _, rfl, rfl, _, rfl, by omega, by omega, for_range (lo := 0) (n := (((n + 1 : Nat) : Int) - 1).toNat) (fun i σ H3 => ∃ (v : V) (t : Option V), σ = [some (.int ((n + 1 : Nat) : Int)), some v, t] ∧ Same H H3 ∧ Dt (New H) H3 v (twr i).d)
      ⟨_, none, rfl, Same.new np, .tup np upd_same (.cons (.str _) .nil)⟩ ?_ ?_⟩
    · rintro i σ H3 hi ⟨v, t, rfl, s3, d3⟩
      refine ⟨_, rfl, big _ (by show (2 : Nat) ≤ 1000; decide), fun p2 np2 => ?_⟩
      exact ⟨_, _, rfl, s3.trans (Same.new np2), .tup (s3.free np2) upd_same (.cons (.str _) (.cons (d3.keep (Same.new np2)) .nil))⟩
    · rintro σ H3 ⟨v, t, rfl, s3, d3⟩
      rw [show (((n + 1 : Nat) : Int) - 1).toNat = n by omega] at d3
      exact ⟨_, rfl, q _ _ s3 d3⟩
end
end N3
namespace N3
open PySem PySem.Spec PyProof.Rows L2 KB
section
variable {K : PySem.W.Frag} {mg : Str → Option Value} {base : Heap} {P : Program} {w : World}
def spCkZ : Sp := fun vs H Q _ => ∃ (F : Addr → Prop) (v : V) (k : Kd), vs = [v] ∧ Dt F H v k.d ∧ k.closed = true ∧ k.noFn = true ∧ k.dep ≤ 100 ∧ sz k.d ≤ 4000000 ∧ ∀ H', Same H H' → Q .non H'
def spIvZ : Sp := fun vs H Q _ => ∃ (F : Addr → Prop) (kv v : V) (k : Kd) (d : PyData), vs = [kv, v] ∧ Dt F H kv k.d ∧ k.closed = true ∧ k.noFn = true ∧ k.dep ≤ 100 ∧ sz k.d ≤ 4000000 ∧ Dt F H v d ∧ sz d ≤ 4000000 ∧ ∀ H', Same H H' → Q (.bl (isV k d)) H'
theorem dkck_k {k : Kd} (hc : k.closed = true) (hn : k.noFn = true) (hd : k.dep ≤ 100) : isDk k.d = true ∧ isCk k.d = true := by
  have h := dk_ck k.d
  rw [clN_d 100 k hc hn hd] at h
  exact Bool.and_eq_true_iff.mp h
abbrev nCk5 : List Str := ["kind"]
theorem sc_nCk5 : FnScope nCk5 ["kind"] (defScope (top 20)) := ⟨rfl, rfl, rfl, by decide +kernel, rfl, by decide +kernel, by decide +kernel⟩
theorem ok_ckZ {f : Addr} {fd : FuncData} (F : FnP K "_check_kind" (top 20) f fd) (hD : Has P w K mg base "is_data_kind" ["value"] 5 (spIsG isDk)) (hC : Has P w K mg base "is_closed_kind" ["value"] 5 (spIsG isCk)) : FnOk P w K mg base CX0 6 f fd ["kind"] spCkZ := by
  obtain ⟨fD, fdD, kD, gD, bD, GD⟩ := hD
  obtain ⟨fC, fdC, kC, gC, bC, GC⟩ := hC
  refine F.ok sc_nCk5 (fun vs H Q E h => ?_) (fun cdv A outer s H vs Q E hr h => ?_)
  · obtain ⟨F, v, k, rfl, _⟩ := h
    rfl
  · obtain ⟨Fa, v, k, rfl, hd, hc, hnf, hdp, hz, q⟩ := h
    have sc := sc_nCk5
    have hrD : Room 5 _ := hr
    have hrC : Room 5 _ := hr
    obtain ⟨e1, e2⟩ := dkck_k hc hnf hdp
    refine ⟨_, PSs.nox (pss_one (ps_if (PW.pt (pw_or (pt_not (pt_val (pe_call GD hrD rfl gD kD bD .nil pass0 (pa_cons (pv 0) pa_nil)))) (pw_or1 (pt_not (pt_val (pe_call GC hrC rfl gC kC bC .nil pass0 (pa_cons (pv 0) pa_nil))))))) (pss_one ps_never) pss_nil)), ?_⟩
    refine ⟨_, rfl, Fa, v, k.d, rfl, hd, hz, fun H1 s1 => ⟨_, rfl, ifF (by rw [e1]; rfl) ?_⟩⟩
    exact ⟨_, rfl, Fa, v, k.d, rfl, hd.keep s1, hz, fun H2 s2 => ⟨_, rfl, ifF (by rw [e2]; rfl) (q H2 (s1.trans s2))⟩⟩
abbrev nIv5 : List Str := ["kind", "value"]
theorem sc_nIv5 : FnScope nIv5 ["kind", "value"] (defScope (top 18)) := ⟨rfl, rfl, rfl, by decide +kernel, rfl, by decide +kernel, by decide +kernel⟩
theorem ok_ivZ {f : Addr} {fd : FuncData} (F : FnP K "is_value" (top 18) f fd) (hC : Has P w K mg base "_check_kind" ["kind"] 6 spCkZ) (hS : Has P w K mg base "_stands_under" ["kind", "value"] 3 spSu) : FnOk P w K mg base CX0 7 f fd ["kind", "value"] spIvZ := by
  obtain ⟨fC, fdC, kC, gC, bC, GC⟩ := hC
  obtain ⟨fS, fdS, kS, gS, bS, GS⟩ := hS
  refine F.ok sc_nIv5 (fun vs H Q E h => ?_) (fun cdv A outer s H vs Q E hr h => ?_)
  · obtain ⟨F, kv, v, k, d, rfl, _⟩ := h
    rfl
  · obtain ⟨Fa, kv, v, k, d, rfl, hk, hcl, hnf, hdp, hkz, hd, hsz, q⟩ := h
    have sc := sc_nIv5
    have hrC : Room 6 _ := hr
    have hrS : Room 3 _ := hr.mono (by omega)
    refine ⟨_, PSs.nox (pss_cons (ps_expr (pe_call GC hrC rfl gC kC bC .nil pass0 (pa_cons (pv 0) pa_nil))) (pss_one (ps_ret (pe_call GS hrS rfl gS kS bS .nil pass0 (pa_cons (pv 0) (pa_cons (pv 1) pa_nil)))))), ?_⟩
    refine ⟨_, rfl, Fa, kv, k, rfl, hk, hcl, hnf, hdp, hkz, fun H1 s1 => ?_⟩
    exact ⟨_, rfl, _, rfl, Fa, kv, v, k, d, rfl, hk.keep s1, hcl, hnf, hd.keep s1, by omega, fun H2 s2 => q H2 (s1.trans s2)⟩
def spAp : Sp := fun vs H Q _ => ∃ (F : Addr → Prop) (v1 v2 pv : V) (a b : Kd) (ps : List PyData), vs = [v1, v2, pv] ∧ Dt F H v1 a.d ∧ Dt F H v2 b.d ∧ Dt F H pv (.tuple ps) ∧ a.closed = true ∧ a.noFn = true ∧ a.dep ≤ 100 ∧ sz a.d ≤ 4000000 ∧ b.closed = true ∧ b.noFn = true ∧ b.dep ≤ 100 ∧ sz b.d ≤ 4000000 ∧
  szA ps ≤ 4000000 ∧ (∀ p ∈ ps, IB (bg + 1000) p) ∧ ∀ H', Same H H' → Q (.bl (prs a b ps)) H'
theorem prs_bad {a b : Kd} {ps : List PyData} {p : PyData} (hp : p ∈ ps) (h : pOk a b p = false) : prs a b ps = false := by
  rw [prs, Bool.and_eq_false_iff]
  left
  rw [List.all_eq_false]
  exact ⟨p, hp, by rw [h]; decide⟩
abbrev nAp : List Str := ["one", "two", "pairs", "index", "pair"]
theorem sc_nAp : FnScope nAp ["one", "two", "pairs"] (defScope (top 37)) := ⟨rfl, rfl, rfl, by decide +kernel, rfl, by decide +kernel, by decide +kernel⟩
theorem ok_ap {f : Addr} {fd : FuncData} (F : FnP K "_are_ascending_pairs" (top 37) f fd) (B : Bl K mg) (hEn : mg "enumerate" = none) (hV : Has P w K mg base "is_value" ["kind", "value"] 7 spIvZ) : FnOk P w K mg base CX0 8 f fd ["one", "two", "pairs"] spAp := by
  obtain ⟨fV, fdV, kV, gV, bV, GV⟩ := hV
  refine F.ok sc_nAp (fun vs H Q E h => ?_) (fun cdv A outer s H vs Q E hr h => ?_)
  · obtain ⟨F, v1, v2, pv, a, b, ps, rfl, _⟩ := h
    rfl
  · obtain ⟨Fa, v1, v2, pv_, a, b, ps, rfl, ha, hb, hp, acl, anf, adp, asz, bcl, bnf, bdp, bsz, psz, pib, q⟩ := h
    have sc := sc_nAp
    have hrV : Room 7 _ := hr
    refine ⟨_, PSs.nox (pss_cons (ps_for PassesOwn.never rfl (KZ.pi_enumT (by rfl) hEn (pa_cons (pv 2) pa_nil)) (pg_tup rfl (pgs_cons (pg_name (i := 3) sc.nd rfl (Or.inl rfl)) (pgs_cons (pg_name (i := 4) sc.nd rfl (Or.inl rfl)) pgs_nil))) (pss_cons (ps_if (PW.pt (pw_or (pt_not (pt_val (pe_callB call_isi (by rfl) B.isinstance (by decide +kernel) (pa_cons (pv 4) (pa_cons (pe_bltn (v := .ty "tuple") (by rfl) B.tuple (by decide +kernel) rfl) pa_nil))))) (pw_or1 (pt_cmpR op_ne (pe_callB call_len (by rfl) B.len (by decide +kernel) (pa_cons (pv 4) pa_nil)) pe_int (nomark _))))) (pss_one (ps_ret pe_bl)) pss_nil) (pss_cons (ps_if (PW.pt (pw_or (pt_not (pt_val (pe_call GV hrV rfl gV kV bV .nil pass0 (pa_cons (pv 0) (pa_cons (pe_ix ix_tup (pv 4) pe_int (fun _ _ => rfl)) pa_nil))))) (pw_or1 (pt_not (pt_val (pe_call GV hrV rfl gV kV bV .nil pass0 (pa_cons (pv 1) (pa_cons (pe_ix ix_tup (pv 4) pe_int (fun _ _ => rfl)) pa_nil)))))))) (pss_one (ps_ret pe_bl)) pss_nil) (pss_one (ps_if (PW.pt (pw_and (pt_cmpR op_gt (pv 3) pe_int (nomark _)) (pw_and1 (pt_not (pt_cmpR (op_ltPV B.sys hr) (pe_ix ix_tup (pv 2) (pe_op op_sub (pv 3) pe_int) (fun _ _ => rfl)) (pv 4) (nomark _)))))) (pss_one (ps_ret pe_bl)) pss_nil))))) (pss_one (ps_ret pe_bl))), ?_⟩
    obtain ⟨c, xs, rfl, fc, hc, rc⟩ := hp.tupI
    have lc := rc.length
    have lz := szA_len ps
    refine ⟨_, rfl, c, xs, rfl, SqT.of hc, KZ.for_enumT (K := K) (a := c) (xs := xs) (fun i σ H2 => Same H H2 ∧ (∃ u3 u4 : Option V, σ = [some v1, some v2, some (.ref c), u3, u4]) ∧ (ps.take i).all (pOk a b) = true ∧ ((List.range (i - 1)).all fun j => plt a b (ps.getD j .none) (ps.getD (j + 1) .none)) = true)
      ⟨Same.refl H, ⟨none, none, rfl⟩, rfl, rfl⟩ (fun i σ H2 hP => SqT.of (hP.1 c _ hc)) ?_ ?_⟩
    · rintro i x T σ H2 hi ⟨sm, ⟨u3, u4, rfl⟩, ok, asc⟩ nT
      obtain ⟨de, hde, dx⟩ := rc.get hi
      have me := List.mem_of_getElem? hde
      have mz := szA_mem me
      have s1 := sm.trans (@Same.new T _ (.tup [.int (i : Nat), x]) nT)
      have hT : (upd H2 T (.tup [.int (i : Nat), x])) T = some (.tup [.int (i : Nat), x]) := upd_same
      generalize upd H2 T (.tup [.int (i : Nat), x]) = H3 at s1 hT ⊢
      have bad : ∀ H', Same H H' → pOk a b de = false → Q (.bl false) H' := fun H' s e => by
        have := q H' s
        rwa [prs_bad me e] at this
      refine ⟨T, _, rfl, SqT.of hT, rfl, _, _, rfl, _, _, rfl, rfl, ?_⟩
      have dx3 := dx.keep s1
      obtain ⟨tye, tyxe, _, _, k3e, _⟩ := tyD (K := K) dx3
      refine ⟨_, rfl, _, _, tye, _, _, rfl, .ty _, tyxe, k3e, _, rfl, ?_⟩
      cases ite : isTup de with
      | false => exact ifT rfl (bad _ s1 (pOk_no ite))
      | true =>
      obtain ⟨es, rfl⟩ := isTup_of ite
      obtain ⟨e0, zs, rfl, fe, he, re⟩ := dx.tupI
      have le := re.length
      have sze := sz_tup es
      refine ifF rfl ⟨_, rfl, _, _, rfl, .inr ⟨_, SqT.of (s1 _ _ he), rfl⟩, rfl, _, rfl, ?_⟩
      have dle : ∀ z : Nat, decide (V.int ((zs.length : Nat) : Int) = V.int (z : Int)) = decide (es.length = z) := fun z => by
        rw [le]
        by_cases g : es.length = z
        · rw [decide_eq_true g, decide_eq_true (by rw [g])]
        · rw [decide_eq_false g, decide_eq_false fun y => g (by have := V.int.inj y; omega)]
      by_cases g2 : es.length = 2
      rotate_left
      · exact ifT (congrArg not ((dle 2).trans (decide_eq_false g2))) (bad _ s1 (pOk_len g2))
      refine ifF (congrArg not ((dle 2).trans (decide_eq_true g2))) ?_
      obtain ⟨e1, e2, rfl⟩ : ∃ e1 e2, es = [e1, e2] := by
        match es, g2 with
        | [e1, e2], _ => exact ⟨_, _, rfl⟩
      obtain ⟨w1, w2, rfl, t1, t2⟩ := re.two
      have z1 := szA_mem (show e1 ∈ [e1, e2] by simp)
      have z2 := szA_mem (show e2 ∈ [e1, e2] by simp)
      have ie := ib_tup.mp (pib _ me)
      have pe_ : pOk a b (.tuple [e1, e2]) = (isV a e1 && isV b e2) := rfl
      refine ⟨_, rfl, _, rfl, e0, _, 0, _, rfl, rfl, SqT.of (s1 _ _ he), rfl, ?_⟩
      refine ⟨Fa, v1, w1, a, e1, rfl, ha.keep s1, acl, anf, adp, asz, t1.keep s1, by omega, fun H4 s4 => ?_⟩
      have s14 := s1.trans s4
      refine ⟨_, rfl, ?_⟩
      cases q1 : isV a e1 with
      | false => exact ifT rfl (bad _ s14 (by rw [pe_, q1, Bool.false_and]))
      | true =>
      refine ifF rfl ?_
      refine ⟨_, rfl, _, rfl, e0, _, 1, _, rfl, rfl, SqT.of (s14 _ _ he), rfl, ?_⟩
      refine ⟨Fa, v2, w2, b, e2, rfl, hb.keep s14, bcl, bnf, bdp, bsz, t2.keep s14, by omega, fun H5 s5 => ?_⟩
      have s15 := s14.trans s5
      refine ⟨_, rfl, ?_⟩
      cases q2 : isV b e2 with
      | false => exact ifT rfl (bad _ s15 (by rw [pe_, q1, q2, Bool.and_false]))
      | true =>
      refine ifF rfl ?_
      have ok' : (ps.take (i + 1)).all (pOk a b) = true := by
        rw [take_snoc hde, List.all_append, ok]
        show (true && (pOk a b (.tuple [e1, e2]) && true)) = true
        rw [pe_, q1, q2]
        rfl
      refine ⟨_, rfl, _, _, rfl, rfl, _, rfl, ite2 (fun g => ?_) (fun g => ?_)⟩
      · have gi : (0 : Int) < (i : Int) := of_decide_eq_true g
        obtain ⟨j, rfl⟩ : ∃ j, i = j + 1 := ⟨i - 1, by omega⟩
        have jl : j < ps.length := by
          have := (List.getElem?_eq_some_iff.mp hde).1
          omega
        obtain ⟨d0, hd0⟩ : ∃ d0, ps[j]? = some d0 := ⟨_, List.getElem?_eq_getElem jl⟩
        have m0 := List.mem_of_getElem? hd0
        have mz0 := szA_mem m0
        have ok0 : pOk a b d0 = true := by
          refine List.all_eq_true.mp ok d0 ?_
          refine List.mem_of_getElem? (i := j) ?_
          rw [List.getElem?_take, if_pos (Nat.lt_succ_self j)]
          exact hd0
        obtain ⟨x0, y0, rfl, p1, p2⟩ := pOk_ex ok0
        have sz00 := sz_tup [x0, y0]
        have y1 := szA_mem (show x0 ∈ [x0, y0] by simp)
        have y2 := szA_mem (show y0 ∈ [x0, y0] by simp)
        have ie0 := ib_tup.mp (pib _ m0)
        obtain ⟨u0, hu0, tu0⟩ := rc.at_ hd0
        have ev : plt a b (ps.getD j .none) (ps.getD (j + 1) .none) = lt2b (cmpF a x0 e1) (cmpF b y0 e2) := by
          rw [getD_of hd0, getD_of hde]
          rfl
        refine ⟨_, rfl, _, rfl, _, _, rfl, rfl, c, xs, _, _, rfl, rfl, SqT.of (s15 _ _ hc), (by
          rw [show (((j + 1 : Nat) : Int) - 1) = ((j : Nat) : Int) by omega]
          exact atI_nat hu0), _, rfl, ?_⟩
        refine ⟨Fa, 10000000, a, b, x0, y0, e1, e2, tu0.keep s15, dx.keep s15, vv_of a x0 p1 (ie0 x0 (by simp)) (by omega), vv_of b y0 p2 (ie0 y0 (by simp)) (by omega), vv_of a e1 q1 (ie e1 (by simp)) (by omega), vv_of b e2 q2 (ie e2 (by simp)) (by omega), adp, bdp, _, rfl, ?_⟩
        cases lt : lt2b (cmpF a x0 e1) (cmpF b y0 e2) with
        | false =>
          refine ifT rfl ?_
          have z : prs a b ps = false := by
            rw [prs, Bool.and_eq_false_iff]
            right
            have := (List.getElem?_eq_some_iff.mp hde).1
            exact range_all_false (i := j) (by omega) (by rw [ev, lt])
          have := q _ s15
          rw [z] at this
          exact this
        | true =>
          refine ifF rfl ⟨s15, ⟨_, _, rfl⟩, ok', ?_⟩
          rw [show j + 1 + 1 - 1 = (j + 1 - 1) + 1 by omega, List.range_succ, List.all_append, asc]
          show (true && (plt a b (ps.getD j .none) (ps.getD (j + 1) .none) && true)) = true
          rw [ev, lt]
          rfl
      · have gi : i = 0 := by
          have : ¬ (0 : Int) < (i : Int) := fun z => g (decide_eq_true z)
          omega
        subst gi
        exact ⟨s15, ⟨_, _, rfl⟩, ok', rfl⟩
    · rintro σ H2 ⟨sm, _, ok, asc⟩
      rw [lc, List.take_length] at ok
      have := q H2 sm
      rw [prs, ok, ascB] at this
      rw [lc] at asc
      rw [asc] at this
      exact this
end
end N3
namespace N3
open PySem PySem.Spec PyProof.Rows L2 KB
section
variable {P : Program} {w : World} {K : PySem.W.Frag} {mg : Str → Option Value} {base : Heap} {aV : Addr}
def spRv : Sp := fun vs H Q _ => ∃ (F : Addr → Prop) (v : V) (d : PyData), vs = [v] ∧ Dt F H v d ∧ sz d ≤ 4000000 ∧ IB (bg + 1000) d ∧ ∀ H', Same H H' → Q (.bl (isRow d)) H'
theorem txB_abc {d : PyData} (h : txB d abc = true) : ∃ x, d = .str x ∧ x ∈ abc := txB_str h
theorem isRow_tx {d0 d1 d2 d3 : PyData} (h : txB d0 abc = false) : isRow (.tuple [d0, d1, d2, d3]) = false := by
  cases is0 : isStr d0 with
  | false => exact isRow_hd is0
  | true =>
    obtain ⟨x, rfl⟩ := isStr_of is0
    cases it3 : isTup d3 with
    | false => exact isRow_tl it3
    | true =>
      obtain ⟨ps, rfl⟩ := isTup_of it3
      have hx : ¬ x ∈ abc := fun z => by
        have e : txB (.str x) abc = abc.contains x := rfl
        rw [e] at h
        rw [List.contains_iff_mem.mpr z] at h
        cases h
      rw [isRow_eq, decide_eq_false hx, Bool.false_and]
theorem isRow_ck {d0 d1 d2 d3 : PyData} (h : (clN 100 d1 && clN 100 d2) = false) : isRow (.tuple [d0, d1, d2, d3]) = false := by
  cases is0 : isStr d0 with
  | false => exact isRow_hd is0
  | true =>
    obtain ⟨x, rfl⟩ := isStr_of is0
    cases it3 : isTup d3 with
    | false => exact isRow_tl it3
    | true =>
      obtain ⟨ps, rfl⟩ := isTup_of it3
      rw [isRow_eq, ← Bool.and_assoc (clN 100 d1), h, Bool.false_and, Bool.and_false]
abbrev nRv : List Str := ["value", "_", "one", "two", "pairs", "kind"]
theorem sc_nRv : FnScope nRv ["value"] (defScope (top 36)) := ⟨rfl, rfl, rfl, by decide +kernel, rfl, by decide +kernel, by decide +kernel⟩
theorem ok_rv {f : Addr} {fd : FuncData} (F : FnP K "_relates_a_variable" (top 36) f fd) (B : Bl K mg) (gV : mg "VARIABLES" = some (.ref aV)) (hVs : ∀ H, SqT K H aV (abc.map V.str)) (hX : Has P w K mg base "is_text_of" ["value", "texts"] 1 (spTxt K)) (hD : Has P w K mg base "is_data_kind" ["value"] 5 (spIsG isDk)) (hK_ : Has P w K mg base "is_closed_kind" ["value"] 5 (spIsG isCk)) (hA : Has P w K mg base "_are_ascending_pairs" ["one", "two", "pairs"] 8 spAp) : FnOk P w K mg base CX0 9 f fd ["value"] spRv := by
  obtain ⟨fX, fdX, kX, gX, bX, GX⟩ := hX
  obtain ⟨fD, fdD, kD, gD, bD, GD⟩ := hD
  obtain ⟨fK_, fdK_, kK_, gK_, bK_, GK_⟩ := hK_
  obtain ⟨fA, fdA, kA, gA, bA, GA⟩ := hA
  refine F.ok sc_nRv (fun vs H Q E h => ?_) (fun cdv A outer s H vs Q E hr h => ?_)
  · obtain ⟨F, v, d, rfl, _⟩ := h
    rfl
  · obtain ⟨Fa, v, d, rfl, hd, hsz, hib, q⟩ := h
    have sc := sc_nRv
    have hrX : Room 1 _ := hr.mono (by omega)
    have hrD : Room 5 _ := hr.mono (by omega)
    have hrK_ : Room 5 _ := hr.mono (by omega)
    have hrA : Room 8 _ := hr
    refine ⟨_, PSs.nox (pss_cons (ps_if (PW.pt (pw_or (pt_not (pt_val (pe_callB call_isi (by rfl) B.isinstance (by decide +kernel) (pa_cons (pv 0) (pa_cons (pe_bltn (v := .ty "tuple") (by rfl) B.tuple (by decide +kernel) rfl) pa_nil))))) (pw_or (pt_cmpR op_ne (pe_callB call_len (by rfl) B.len (by decide +kernel) (pa_cons (pv 0) pa_nil)) pe_int (nomark _)) (pw_or1 (pt_not (pt_val (pe_call GX hrX rfl gX kX bX .nil pass0 (pa_cons (pe_ix ix_tup (pv 0) pe_int (fun _ _ => rfl)) (pa_cons (pe_glob (v := .ref aV) rfl gV rfl) pa_nil))))))))) (pss_one (ps_ret pe_bl)) pss_nil) (pss_cons (ps_asg (pv 0) (pg_tup rfl (pgs_cons (pg_name (i := 1) sc.nd rfl (Or.inl rfl)) (pgs_cons (pg_name (i := 2) sc.nd rfl (Or.inl rfl)) (pgs_cons (pg_name (i := 3) sc.nd rfl (Or.inl rfl)) (pgs_cons (pg_name (i := 4) sc.nd rfl (Or.inl rfl)) pgs_nil)))))) (pss_cons (ps_if (pt_not (pt_val (pe_callB (cr_all rfl) (by rfl) B.all (by decide +kernel) (pa_cons (pe_lc (own := [("kind", 5)]) (g := gName 5) (tt := tYes) (by rfl) sc.nd (pi_tup (pe_tup (pa_cons (pv 2) (pa_cons (pv 3) pa_nil)))) (blkOk_by (own := [("kind", 5)]) (N := nRv) (sc := (defScope (top 36))) (by decide +kernel)) (fun _ _ _ _ _ => (pg_name (i := 5) sc.nd rfl (Or.inl rfl))) (fun _ _ _ _ _ => pts_nil) (fun _ _ _ _ _ => (pe_and (pe_call GD hrD rfl gD kD bD .nil pass0 (pa_cons (pv 5) pa_nil)) (pe_one (pe_call GK_ hrK_ rfl gK_ kK_ bK_ .nil pass0 (pa_cons (pv 5) pa_nil)))))) pa_nil)))) (pss_one (ps_ret pe_bl)) pss_nil) (pss_one (ps_ret (pe_and (pe_callB call_isi (by rfl) B.isinstance (by decide +kernel) (pa_cons (pv 4) (pa_cons (pe_bltn (v := .ty "tuple") (by rfl) B.tuple (by decide +kernel) rfl) pa_nil))) (pe_one (pe_call GA hrA rfl gA kA bA .nil pass0 (pa_cons (pv 2) (pa_cons (pv 3) (pa_cons (pv 4) pa_nil))))))))))), ?_⟩
    have big : ∀ k : Nat, k ≤ 1000 → k ≤ sizeLine := fun k h => Nat.le_of_lt (small1000 h)
    have s0 := Same.refl H
    obtain ⟨ty, tyx, k1, k2, k3, k4⟩ := tyD (K := K) hd
    refine ⟨_, rfl, _, _, ty, _, _, rfl, .ty _, tyx, k3, _, rfl, ?_⟩
    cases it : isTup d with
    | false => exact ifT rfl (by have := q H s0; rwa [isRow_no it] at this)
    | true =>
    obtain ⟨ds, rfl⟩ := isTup_of it
    obtain ⟨a, xs, rfl, fa, ha, ra⟩ := hd.tupI
    have ll := ra.length
    have sz0 := sz_tup ds
    refine ifF rfl ⟨_, rfl, _, _, rfl, .inr ⟨_, SqT.of ha, rfl⟩, rfl, _, rfl, ?_⟩
    have dlen : ∀ z : Nat, decide (V.int ((xs.length : Nat) : Int) = V.int (z : Int)) = decide (ds.length = z) := fun z => by
      rw [ll]
      by_cases g : ds.length = z
      · rw [decide_eq_true g, decide_eq_true (by rw [g])]
      · rw [decide_eq_false g, decide_eq_false fun y => g (by have := V.int.inj y; omega)]
    by_cases g3 : ds.length = 4
    rotate_left
    · exact ifT (congrArg not ((dlen 4).trans (decide_eq_false g3))) (by have := q H s0; rwa [isRow_len g3] at this)
    refine ifF (congrArg not ((dlen 4).trans (decide_eq_true g3))) ?_
    obtain ⟨d0, d1, d2, d3, rfl⟩ : ∃ d0 d1 d2 d3, ds = [d0, d1, d2, d3] := by
      match ds, g3 with
      | [d0, d1, d2, d3], _ => exact ⟨_, _, _, _, rfl⟩
    obtain ⟨v0, v1, v2, v3, rfl, r0, r1, r2, r3⟩ : ∃ v0 v1 v2 v3, xs = [v0, v1, v2, v3] ∧ Dt Fa H v0 d0 ∧ Dt Fa H v1 d1 ∧ Dt Fa H v2 d2 ∧ Dt Fa H v3 d3 := by
      cases ra with
      | cons r0 r =>
        obtain ⟨y1, y2, y3, rfl, r1, r2, r3⟩ := r.three
        exact ⟨_, _, _, _, rfl, r0, r1, r2, r3⟩
    have m1 := szA_mem (show d1 ∈ [d0, d1, d2, d3] by simp)
    have m2 := szA_mem (show d2 ∈ [d0, d1, d2, d3] by simp)
    have m3 := szA_mem (show d3 ∈ [d0, d1, d2, d3] by simp)
    have qF : ∀ (H' : Hp), Same H H' → isRow (.tuple [d0, d1, d2, d3]) = false → Q (.bl false) H' := fun H' s e => by
      have := q H' s
      rwa [e] at this
    refine ⟨_, rfl, a, _, 0, _, rfl, rfl, SqT.of ha, rfl, ?_⟩
    refine ⟨Fa, v0, aV, d0, abc, rfl, r0, hVs H, ⟨_, rfl, ?_⟩⟩
    cases tx : txB d0 abc with
    | false => exact ifT rfl (qF _ s0 (isRow_tx tx))
    | true =>
    refine ifF rfl ?_
    obtain ⟨x, rfl, gx⟩ := txB_abc tx
    have e0 := r0.strI
    subst e0
    refine ⟨_, rfl, a, _, rfl, SqT.of ha, rfl, _, _, rfl, _, _, rfl, _, _, rfl, _, _, rfl, rfl, ?_⟩
    refine ⟨_, rfl, _, rfl, big _ (by show (2 : Nat) ≤ 1000; decide), fun t nt => ?_⟩
    have st := @Same.new t _ (.tup [v1, v2]) nt
    refine ⟨t, rfl, ⟨_, SqT.of upd_same⟩, fun D nD => lc_tup (K := K) (a := t) (xs := [v1, v2]) (fun i H2 => Same (upd H t (.tup [v1, v2])) H2 ∧ H2 D = some (.lst ((([d1, d2].take i).map (clN 100)).map V.bl))) ⟨Same.new nD, upd_same⟩ (fun i H2 _ hP => SqT.of (hP.1 t _ upd_same)) ?_ ?_⟩
    · rintro i e H2 hi ⟨sm, hD⟩
      have rr : DtA Fa H [v1, v2] [d1, d2] := .cons r1 (.cons r2 .nil)
      obtain ⟨de, hde, dte⟩ := rr.get hi
      have zz : sz de ≤ 4000000 := by
        match i, hde with
        | 0, hde => cases hde; omega
        | 1, hde => cases hde; omega
      have s2 := st.trans sm
      refine ⟨rfl, ?_⟩
      refine iteT (B := Same (upd H t (.tup [v1, v2])) H2 ∧ H2 D = some (.lst ((([d1, d2].take (i + 1)).map (clN 100)).map V.bl))) ?_
      refine ⟨_, rfl, Fa, e, de, rfl, dte.keep s2, zz, fun H3 s3 => ?_⟩
      have fin : ∀ (b : Bool) (H4 : Hp), b = clN 100 de → Same H2 H4 → ∃ acc, H4 D = some (.lst acc) ∧ acc.length < sizeLine ∧ Same (upd H t (.tup [v1, v2])) (upd H4 D (.lst (acc ++ [V.bl b]))) ∧ (upd H4 D (.lst (acc ++ [V.bl b]))) D = some (.lst ((([d1, d2].take (i + 1)).map (clN 100)).map V.bl)) := fun b H4 eb s4 => by
        refine ⟨_, s4 _ _ hD, small1000 (by rw [List.length_map, List.length_map, List.length_take]; show min i 2 ≤ 1000; omega), fun b' o e2 => ?_, ?_⟩
        · rw [upd_ne (ne_of_none e2 nD)]
          exact s4 b' o (sm b' o e2)
        · rw [upd_same, take_snoc hde, List.map_append, List.map_append, eb]
          rfl
      cases c1 : isDk de with
      | false => exact ⟨_, rfl, ifF rfl (fin false H3 (by rw [← dk_ck, c1, Bool.false_and]) s3)⟩
      | true => exact ⟨_, rfl, ifT rfl ⟨_, rfl, Fa, e, de, rfl, dte.keep (s2.trans s3), zz, fun H4 s4 => fin (isCk de) H4 (by rw [← dk_ck, c1, Bool.true_and]) (s3.trans s4)⟩⟩
    · rintro H2 ⟨sm, hD⟩
      have s2 := st.trans sm
      refine ⟨D, [clN 100 d1, clN 100 d2], rfl, SqL.of hD, ⟨_, rfl, ?_⟩⟩
      have ea : ([clN 100 d1, clN 100 d2] : List Bool).all id = (clN 100 d1 && clN 100 d2) := by
        show (clN 100 d1 && (clN 100 d2 && true)) = _
        rw [Bool.and_true]
      rw [ea]
      cases ck : clN 100 d1 && clN 100 d2 with
      | false => exact ifT rfl (qF _ s2 (isRow_ck ck))
      | true =>
      refine ifF rfl ?_
      obtain ⟨c1, c2⟩ := Bool.and_eq_true_iff.mp ck
      have r3' := r3.keep s2
      obtain ⟨ty3, tyx3, _, _, k33, _⟩ := tyD (K := K) r3'
      refine ⟨_, rfl, _, _, ty3, _, _, rfl, .ty _, tyx3, k33, ?_⟩
      cases it3 : isTup d3 with
      | false => exact ⟨_, rfl, ifF rfl (qF _ s2 (isRow_tl it3))⟩
      | true =>
      obtain ⟨ps, rfl⟩ := isTup_of it3
      obtain ⟨f1, f2, f3, f4⟩ := clN_ok 100 d1 c1
      obtain ⟨h1, h2, h3, h4⟩ := clN_ok 100 d2 c2
      have sz3 := sz_tup ps
      refine ⟨_, rfl, ifT rfl ⟨_, rfl, _, rfl, _, rfl, Fa, v1, v2, v3, toK 100 d1, toK 100 d2, ps, rfl, by rw [f1]; exact r1.keep s2, by rw [h1]; exact r2.keep s2, r3', f2, f3, f4, by rw [f1]; omega, h2, h3, h4, by rw [h1]; omega, by omega, ib_tup.mp (ib_tup.mp hib (.tuple ps) (by simp)), fun H3 s3 => ?_⟩⟩
      have := q H3 (s2.trans s3)
      rw [isRow_eq, decide_eq_true gx, c1, c2, Bool.true_and, Bool.true_and, Bool.true_and] at this
      exact this
end
end N3
namespace PySem
namespace KX
open HandSPX Builtin Builtin.ObjectAttr
section
variable {M : Model} {A : Around} {E : Value → Shared → Prop} {h : Heap} {g : Array GenState} {d : Drawn} {t : Nat} {os : OsState} {kw : List (Str × Value)}
  {nm q : Str} {C N : Addr} {bs bm bmB : List Value} {hdct : Bool} {sn : List Str} {sub : List Value} {ab : Bool} {col : Option Bool} {dd : Option Addr}
  {k0 k1 k2 k3 k5 : Option Value} {B newId initId : String}
theorem check_new (F : ExcBaseFacts B newId initId bmB) (hT : ∀ X : String, bm.contains (.type X) = bmB.contains (.type X)) {rest : List Value} {Q : Unit → Shared → Prop} (hC : h.get? C = some (excClassObj nm q C N bs bm hdct sn sub ab col dd k0 k1 k2 k3 k5 newId)) (hq : Q () ⟨h, g, d, t, os⟩) :
    wpAny M A (checkBuiltinCall newId ⟨.ref C :: rest, kw⟩) Q E ⟨h, g, d, t, os⟩ := by
  have under : (Value.ref C :: bm).contains (.type B) = true := by
    rw [List.contains_cons, hT, F.hasB, Bool.or_true]
  have st := F.noStar
  (simp only [checkBuiltinCall, F.newKind, F.newSplit, F.newRow])
  repeat (first
    | refine wpAny_loadPart_at hC ?_
    | (refine wpAny_isSubtype_exc hC ?_; rw [under])
    | refine wpAny_staticBase_exc hC ?_
    | refine wpAny_madeBy_exc hC ?_
    | simp only [bne_self_eq_false, Bool.false_eq_true, if_false]
    | wp_step)
  exact hq
theorem check_type {rest : List Value} {Q : Unit → Shared → Prop} (hC : h.get? C = some (excClassObj nm q C N bs bm hdct sn sub ab col dd k0 k1 k2 k3 k5 newId))
    (hq : Q () ⟨h, g, d, t, os⟩) : wpAny M A (checkBuiltinCall "type.__call__" ⟨.ref C :: rest, kw⟩) Q E ⟨h, g, d, t, os⟩ := by
  have f3 := tc_sub
  have ty : (⟨h, g, d, t, os⟩ : Shared).TypeIs (.ref C) "type" := ⟨_, hC, rfl⟩
  (simp only [checkBuiltinCall, tc_kind, tc_split])
  repeat (any_goals (first
    | assumption
    | with_reducible refine wpAny_loadPart_at hC ?_
    | with_reducible refine wpAny_onRaise ?_
    | with_reducible refine wpAny_map ?_
    | wp_step))
end
section
variable {prog : Program} {w : World} {A : Around} {E : Value → Shared → Prop} {R : Result → Shared → Prop} {h : Heap} {g : Array GenState} {d : Drawn} {t : Nat} {os : OsState} {kw : List (Str × Value)}
  {nm q : Str} {C N : Addr} {bs bm bmB : List Value} {hdct : Bool} {sn : List Str} {sub : List Value} {ab : Bool} {col : Option Bool} {dd : Option Addr}
  {k0 k1 k2 k3 k5 : Option Value} {B newId initId : String}
theorem new_kw (F : ExcBaseFacts B newId initId bmB) (hT : ∀ X : String, bm.contains (.type X) = bmB.contains (.type X)) {rest : List Value} (hC : h.get? C = some (excClassObj nm q C N bs bm hdct sn sub ab col dd k0 k1 k2 k3 k5 newId))
    (hq : R (.ok (.ret (.ref (h.objs.size + 1)))) ⟨(h.push (W.kdv_tup rest)).push (excO C h.objs.size), g, d, t, os⟩) (hrest : rest.length ≤ sizeLine) :
    codeAny (model prog w) A (.builtin newId ⟨.ref C :: rest, kw⟩) R ⟨h, g, d, t, os⟩ := by
  have en := F.ends
  have c1 : (Value.ref C :: bm).contains (.type B) = true := by
    rw [List.contains_cons, hT, F.hasB, Bool.or_true]
  have c2 : (Value.ref C :: bm).contains (.type "AttributeError") = false := by
    rw [List.contains_cons, hT, F.noAttr]; rfl
  have c3 : (Value.ref C :: bm).contains (.type "NameError") = false := by
    rw [List.contains_cons, hT, F.noName]; rfl
  (refine codeAny_builtinAt F.entry ?_)
  (unfold Builtin.«BaseException.__new__»)
  refine wpAt_bind ?_
  (show wpAt _ _ _ (stack >>= _) _ _ _)
  (refine wpAt_bind (wpAt_stack fun p below => wpAt_of_wpAny ?_))
  wp_walk
  refine wpAt_of_wpAny ?_
  rw [F.owner]
  repeat (first
    | with_reducible refine wpAny_madeHere_exc F.canon hC ?_
    | with_reducible refine wpAny_loadPart_at hC ?_
    | (with_reducible refine wpAny_isSubtype_exc hC ?_; first | rw [c1] | rw [c2] | rw [c3])
    | wp_step)
  show R _ _
  rw [Heap.size_push]
  exact hq
theorem type_kw (F : ExcBaseFacts B newId initId bmB) (hT : ∀ X : String, bm.contains (.type X) = bmB.contains (.type X)) {rest : List Value} {fI : Addr} {Q : Fin → Shared → Prop} (hC : h.get? C = some (excClassObj nm q C N bs bm hdct sn sub ab col dd k0 k1 k2 k3 k5 newId)) (hi : W.Looks (model prog w) h (typeLookup (.ref C) "__init__") (some (.ref fI))) (hb : ∀ self, W.Looks (model prog w) h (bindSpecial (.ref fI) self) (.ref fI, [self])) (hrest : rest.length ≤ sizeLine)
    (hq : codeAny (model prog w) A (.call (.ref fI) ⟨.ref (h.objs.size + 1) :: rest, kw⟩) (fun r s' => match r with | .ok (.ret v) => v = .none ∧ Q (.done (.ret (.ref (h.objs.size + 1)))) s' | .ok _ => False | .error e => E e s') ⟨(h.push (W.kdv_tup rest)).push (excO C h.objs.size), g, d, t, os⟩) :
    wpAny (model prog w) A (Builtin.«type.__call__» ⟨.ref C :: rest, kw⟩) Q E ⟨h, g, d, t, os⟩ := by
  repeat (first
    | with_reducible refine wpAny_loadPart_at hC ?_
    | with_reducible refine wpAny_madeBy_exc hC ?_
    | wp_step)
  refine codeAny_call_builtin_code (Code.quiet_builtin _ F.quiet) (check_new F hT hC ?_)
  refine new_kw F hT hC ?_ hrest
  show wpAny _ _ _ _ _ _
  have k : ∀ b o, h.get? b = some o → ((h.push (W.kdv_tup rest)).push (excO C h.objs.size)).get? b = some o := by
    intro b o e
    (exact Heap.get?_push_of_some _ (Heap.get?_push_of_some _ e))
  have at1 := k _ _ hC
  have new : ((h.push (W.kdv_tup rest)).push (excO C h.objs.size)).get? (h.objs.size + 1) = some (excO C h.objs.size) := by heap_get
  have self : (Value.ref C :: bm).contains (.ref C) = true := by simp
  have i1 := hi.keeps k
  (have b1 := (hb (.ref (h.objs.size + 1))).keeps k)
  unfold isInstance
  repeat (first
    | with_reducible refine wpAny_loadPart_at new ?_
    | (with_reducible refine wpAny_isSubtype_exc at1 ?_; rw [self])
    | wp_step)
  (show wpAny _ _ (typeLookup (.ref C) _) _ _ _)
  refine i1.at ?_
  (refine wpAny_holding (wpAny_bind (b1.at ?_)))
  (refine wpAny_bind (wpAny_call (codeAny_mono hq fun r s' z => ?_)))
  (rcases r with e | (v | _ | _ | _) <;> first | exact z | exact z.elim | skip)
  obtain ⟨rfl, z⟩ := z
  first
    | (exact wpAny_pure (wpAny_pure z))
    | (wp_walk; exact z)
theorem call_kw (F : ExcBaseFacts B newId initId bmB) (hT : ∀ X : String, bm.contains (.type X) = bmB.contains (.type X)) {rest : List Value} {fI : Addr} (hC : h.get? C = some (excClassObj nm q C N bs bm hdct sn sub ab col dd k0 k1 k2 k3 k5 newId)) (hi : W.Looks (model prog w) h (typeLookup (.ref C) "__init__") (some (.ref fI))) (hb : ∀ self, W.Looks (model prog w) h (bindSpecial (.ref fI) self) (.ref fI, [self])) (hrest : rest.length ≤ sizeLine)
    (hq : codeAny (model prog w) (A.under (.builtin "type.__call__" ⟨.ref C :: rest, kw⟩)) (.call (.ref fI) ⟨.ref (h.objs.size + 1) :: rest, kw⟩) (W.InitBack (h.objs.size + 1) R) ⟨(h.push (W.kdv_tup rest)).push (excO C h.objs.size), g, d, t, os⟩) : codeAny (model prog w) A (.call (.ref C) ⟨rest, kw⟩) R ⟨h, g, d, t, os⟩ := by
  have f1 := tc_lookup
  have f2 := tc_bind (.ref C)
  have ty : (⟨h, g, d, t, os⟩ : Shared).TypeIs (.ref C) "type" := ⟨_, hC, rfl⟩
  refine codeAny_of_tree ?_
  (show wpAny _ _ (callAny (.ref C) _) _ _ _)
  (repeat (any_goals (first | assumption | with_reducible refine wpAny_loadPart_at hC ?_ | wp_step)))
  refine ⟨rfl, ?_⟩
  refine codeAny_call_builtin_at (Code.quiet_builtin _ (by decide +kernel)) entry_typeCall (check_type hC (type_kw F hT hC hi hb hrest ?_))
  (refine codeAny_mono hq fun r s' z => ?_)
  (rcases r with e | (v | _ | _ | _) <;> exact z)
end
end KX
end PySem
namespace KB
open PySem PySem.W PySem.Calls PySem.Spec PyProof.Rows
section
variable {K : Frag} {x D : Addr} {ox : Obj} {od : Option Obj}
theorem fo_data {C : Addr} {name : Str} {a g : Value} (hc : (clsIn K C).isSome = true) (ha : findIn K (.ref C) name = some (some a))
    (hg : specialIn K a "__get__" = some (some g)) (ht : takesIn K a = some true) : findObj K C od name = some (.bind g a) := by
  obtain ⟨cd, e⟩ := Option.isSome_iff_exists.mp hc
  unfold findObj
  rw [e, Option.bind_some, ha, Option.bind_some]
  simp [hg, ht]
structure IsC (K : Frag) (D : Addr) : Prop where
  ga : findIn K (.ref D) "__getattribute__" = some (some (.builtin "BaseException.__getattribute__"))
  gg : findIn K (.ref D) "__getattr__" = some none
  sub : subIn K (.ref D) (.type "BaseException") = some true
  dct : hasDictIn K D = true
  cl : findIn K (.ref D) "__class__" = some (some (.builtin "object.__class__"))
  sp : specialIn K (.builtin "object.__class__") "__get__" = some (some (.builtin "getset_descriptor.__get__"))
  tk : takesIn K (.builtin "object.__class__") = some true
  ob : mroIn K D (.type "object") = some true
variable {A : Around} {E : Value → Shared → Prop} {s : Shared} {prog : Program} {w : World}
theorem cls_get {Q : Option Value → Shared → Prop} (T : IsC K D) (X : K.In s.heap) (I : InstAt s.heap x ox D od) (h : Q (some (.ref D)) { s with toks := s.toks + 1 }) :
    wpAny (model prog w) A (getAttr? (.ref x) "__class__") Q E s := by
  have some1 : (clsIn K D).isSome = true := by
    obtain ⟨cd, hc, _⟩ := any_some T.dct
    rw [hc] <;> rfl
  have hf : findObj K D od "__class__" = some (.bind (.builtin "getset_descriptor.__get__") (.builtin "object.__class__")) := fo_data some1 T.cl T.sp T.tk
  obtain ⟨hp, g, d, t, os⟩ := s
  have a0 := I.type (M := model prog w)
  have a1 := looks_findIn (M := model prog w) X T.ga
  have a2 := looks_findIn (M := model prog w) X T.gg
  have a3 := looks_find (M := model prog w) X I hf
  have sub : Looks (model prog w) hp (isInstance (.ref x) (.type "BaseException")) true := a0.andThen (looks_subIn X T.sub)
  have no0 : (false && onTheHeap (Value.builtin "BaseException.__getattribute__")) = false := rfl
  have no1 : (Value.builtin "BaseException.__getattribute__" == Value.builtin "object.__getattribute__") = false := by decide +kernel
  have no2 : (onTheHeap (Value.ref D) && Value.builtin "BaseException.__getattribute__" == Value.builtin "object.__getattribute__") = false := by
    rw [no1]; rfl
  (unfold getAttr? getAttrBy? getAttrBy)
  refine wpAny_bind (wpAny_mkText (wpAny_bind (wpAny_attempt (wpAny_holding (wpAny_bind (a0.at (wpAny_bind (a1.at ?_))))))))
  (show wpAny _ _ (if (onTheHeap (Value.ref D) && Value.builtin "BaseException.__getattribute__" == Value.builtin "object.__getattribute__") = true then _ else _) _ _ _)
  rw [no2, if_neg Bool.false_ne_true]
  (unfold getAttrByItsOwn hookBefore)
  refine wpAny_bind ?_
  (rw [if_pos (show onTheHeap (Value.ref D) = true from rfl)])
  refine a2.at ?_
  (refine wpAny_bind (wpAny_attempt (wpAny_holding ?_)))
  unfold callGetattribute
  rw [no0, if_neg Bool.false_ne_true]
  unfold boundAndCalled
  (rw [PySem.F.excAttr_ValueError.ga.bind (.ref x)])
  (refine wpAny_bind (wpAny_pure ?_))
  (show wpAny _ _ (call (.builtin "BaseException.__getattribute__") [.ref x, .str "__class__" t]) _ _ _)
  (refine wpAny_call (codeAny_call_builtin PySem.F.excAttr_ValueError.ga.plain PySem.F.entry_bexc_ga ?_))
  refine @check_slot (model prog w) _ _ ⟨hp, g, d, t + 1, os⟩ "BaseException.__getattribute__" "BaseException" "__getattribute__" (.ref x)
    [.str "__class__" t] [] _ (by decide +kernel) (by decide +kernel) sub (PySem.F.args_bexc_ga (.ref x) (.str "__class__" t)) ?_
  (unfold Builtin.«object.__getattribute__»)
  (refine wpAny_bind (wpAny_of_eq (a := ((Value.ref x : Value), [Value.str "__class__" t])) (by first | rfl | (simp only [slotArgs]; rfl)) ?_))
  refine wpAny_bind (wpAny_pure (wpAny_bind (a0.at (wpAny_bind (a3.at ?_)))))
  (show wpAny _ _ (holding [Value.builtin "object.__class__"] (call (.builtin "getset_descriptor.__get__") [.builtin "object.__class__", .ref x, .ref D]) >>= ret) _ _ _)
  refine wpAny_bind (wpAny_holding (wpAny_call (class_get (s := ⟨hp, g, d, t + 1, os⟩) (ox := ox) (od := od) X I T.ob ?_)))
  refine wpAny_pure ?_
  (show wpAny _ _ (handedOut (.ref D)) _ _ _)
  (rw [handedOut_of (v := .ref D) rfl])
  first
    | (exact wpAny_pure (wpAny_pure h))
    | exact wpAny_pure h
    | (exact wpAny_pure (wpAny_bind (wpAny_pure (wpAny_pure h))))
theorem kitx_exc (T : IsC K D) : KitX K (.ref x) (.ref D) (fun h => InstAt h x ox D od) where
  ty := fun _ _ _ I => I.type
  it := by
    intro M h X _
    obtain ⟨cd, hc, _⟩ := any_some T.dct
    unfold clsIn at hc
    split at hc
    · rename_i c' d' cd' sl' ho
      intro A' Q' E' s' k q
      unfold isType loadHead
      (exact wpAny_bind (wpAny_loadPart (k _ _ (X _ _ ho)) (wpAny_pure q)))
    · cases hc
  ne := by
    intro h tp dd its n sl X htp
    obtain ⟨cd, hc, _⟩ := any_some T.dct
    (refine Bool.eq_false_iff.mpr fun q => ?_)
    (have e : D = tp := Value.ref.inj (beq_iff_eq.mp q))
    subst e
    unfold clsIn at hc
    split at hc
    · rename_i c' d' cd' sl' ho
      cases (X _ _ ho).symm.trans htp
    · cases hc
  ca := fun X I k => cls_get T X I k
end
end KB
namespace KB
open PySem L2 PySem.Spec PyProof.Rows
def Exv (H : Hp) (a C : Addr) (fs : List (Str × V)) : Prop := (fs = [] ∧ H a = some (exo a C none)) ∨ ∃ dx, H a = some (exo a C (some dx)) ∧ H dx = some (exd dx fs)
theorem Exv.same {H H' : Hp} {a C : Addr} {fs : List (Str × V)} (h : Exv H a C fs) (k : Same H H') : Exv H' a C fs := by
  rcases h with ⟨e, h⟩ | ⟨dx, h, h2⟩
  · exact .inl ⟨e, k _ _ h⟩
  · exact .inr ⟨dx, k _ _ h, k _ _ h2⟩
theorem Exv.kw {w : Addr} {H H' : Hp} {a C : Addr} {fs : List (Str × V)} {c : Int} (h : Exv H a C fs) (hw : Wl H w c) (k : Kw w H H') : Exv H' a C fs := by
  obtain ⟨n, m, e, _⟩ := hw
  have n1 : ∀ {d : Option Addr} {b : Addr}, H b = some (exo b C d) → b ≠ w := fun {d b} q => ne_of q e (by unfold exo; intro z; cases z)
  have n2 : ∀ {b : Addr}, H b = some (exd b fs) → b ≠ w := fun {b} q => ne_of q e (by unfold exd; intro z; cases z)
  rcases h with ⟨e1, h⟩ | ⟨dx, h, h2⟩
  · exact .inl ⟨e1, k _ _ (n1 h) h⟩
  · exact .inr ⟨dx, k _ _ (n1 h) h, k _ _ (n2 h2) h2⟩
section
variable {X : Cx} {pins : List (Addr × Obj)} {σ : L2.St} {H : Hp} {s : Shared} {a C : Addr} {fs : List (Str × V)}
theorem Exv.inst (I : Inv X pins σ H s) (h : Exv H a C fs) : ∃ ox od, PySem.W.InstAt s.heap a ox C od ∧ ∀ f v, fs.lookup f = some v → ∃ o u, od = some o ∧ RelV v u ∧ PySem.W.lookIn f o = some (some u) := by
  rcases h with ⟨e, h⟩ | ⟨dx, h, h2⟩
  · obtain ⟨t1, ho⟩ := exo_at I.hok h
    refine ⟨_, none, ⟨ho, rfl, rfl, trivial⟩, fun f v q => ?_⟩
    rw [e] at q
    cases q
  · obtain ⟨t1, ho⟩ := exo_at I.hok h
    obtain ⟨mA, hns, rel⟩ := exd_at I.hok h2
    obtain ⟨od, hd, hl⟩ := lookIn_ns hns
    refine ⟨_, some od, ⟨ho, rfl, rfl, hd⟩, fun f v q => ?_⟩
    obtain ⟨u, hu, ru⟩ := RelO.some_of (v := v) (o := mA f) (by rw [← q]; exact rel f)
    exact ⟨od, u, rfl, ru, by rw [hl, hu]⟩
end
def rIsE (K : PySem.W.Frag) : List V → Hp → VK → Prop := fun xs H Q => ∃ (a C : Addr) (fs : List (Str × V)) (c : V) (u : Value) (b : Bool), xs = [.ref a, c] ∧ Exv H a C fs ∧ IsC K C ∧ ClsV c u ∧ PySem.W.kitOne K (.ref C) u = some b ∧ Q (.bl b) H
def rIsET (K : PySem.W.Frag) : List V → Hp → VK → Prop := fun xs H Q => ∃ (a C : Addr) (fs : List (Str × V)) (tp : Addr) (cs : List V) (us : List Value) (b : Bool), xs = [.ref a, .ref tp] ∧ Exv H a C fs ∧ IsC K C ∧ H tp = some (.tup cs) ∧ Paired ClsV cs us ∧
  PySem.W.kitAny K (.ref C) us = some b ∧ Q (.bl b) H
section
variable {X : Cx}
theorem call_isE : CallR X (.builtin "isinstance") (rIsE X.K) := by
  (intro pins s σ H xs us Q I r h)
  obtain ⟨a, C, fs, c, u, b, rfl, hx, ic, hc, e, q⟩ := h
  (obtain ⟨u1, u2, rfl, r1, r2⟩ := vals2 r)
  (cases (show u1 = Value.ref a from r1))
  have e2 := hc.eq r2
  subst e2
  obtain ⟨ox, od, J, _⟩ := hx.inst I
  exact PySem.W.kia_one (kitx_exc ic) I.kIn J e (fun z => nomatch z) fun tk => ⟨.bl b, H, I.tok tk, rfl, q⟩
theorem call_isET : CallR X (.builtin "isinstance") (rIsET X.K) := by
  (intro pins s σ H xs us Q I r h)
  obtain ⟨a, C, fs, tp, cs, ws, b, rfl, hx, ic, hT, hc, e, q⟩ := h
  (obtain ⟨u1, u2, rfl, r1, r2⟩ := vals2 r)
  (cases (show u1 = Value.ref a from r1))
  (cases (show u2 = Value.ref tp from r2))
  obtain ⟨ox, od, J, _⟩ := hx.inst I
  (obtain ⟨_, its, rv, o, h1, h2, n, h3⟩ := (show ObjOk X.prog X.w H s.heap tp (.tup cs) from I.hok tp _ hT))
  have e3 := ClsV.all hc rv
  subst e3
  obtain ⟨oc, odd, dt, sl⟩ := o
  simp only at h2 h3
  subst h2 h3
  exact PySem.W.kia_tup (kitx_exc ic) I.kIn J h1 e (fun z => nomatch z) fun tk => ⟨.bl b, H, I.tok tk, rfl, q⟩
end
def tGetE (K : PySem.W.Frag) (f : Str) (te : TE) : TE := fun σ H Q => te σ H fun x H1 => ∃ (a C : Addr) (fs : List (Str × V)) (v : V), x = .ref a ∧ Exv H1 a C fs ∧ XfC K C ∧ PySem.W.findIn K (.ref C) f = some none ∧ fs.lookup f = some v ∧ Q v H1
theorem pe_getE {X : Cx} {e : Expr} {te : TE} {f : Str} {pos : Pos} (he : PE X e te) (hb : attributeBase e f X.env (eval e X.env) = eval e X.env := by rfl) : PE X (.Attribute e f pos) (tGetE X.K f te) := by
  (refine ⟨fun pins s σ H Q I h => ?_⟩)
  (refine attr_of hb (thn (he.run pins s σ H _ I h) fun u s1 hh => ?_))
  obtain ⟨x, H1, I1, rx, a, C, fs, v, ex, hx, T, hno, l, q⟩ := hh
  subst ex
  (obtain rfl : u = Value.ref a := rx)
  obtain ⟨ox, od, J, look⟩ := hx.inst I1
  obtain ⟨o, z, rfl, rz, hl⟩ := look f v l
  exact HandSPX.exc_get I1.kIn J T.ga T.gg T.exC (PySem.W.findObj_own T.hdC hno rfl hl) (handed_of rz) ⟨v, H1, I1.tok _, rz, q⟩
def spInit (C : Addr) (fs : List Str) : Sp := fun vs H Q _ => ∃ (a : Addr) (xs : List V), vs = .ref a :: xs ∧ xs.length = fs.length ∧ H a = some (exo a C none) ∧
  ∀ (dx : Addr) (H' : Hp), H dx = none → dx ≠ a → H' a = some (exo a C (some dx)) → H' dx = some (exd dx (fs.zip xs).reverse) → (∀ b, b ≠ a → b ≠ dx → H' b = H b) → Q .non H'
structure ErrC (P : Program) (w : World) (K : PySem.W.Frag) (mg : Str → Option Value) (base : Heap) (x : Str) (C : Addr) (fs : List Str) : Prop where
  g : mg x = some (.ref C)
  oex : OexC K C
  ini : ∃ (fI : Addr) (fd : FuncData), PySem.W.findIn K (.ref C) "__init__" = some (some (.ref fI)) ∧ PySem.W.typeIn K (.ref fI) = some (.type "function") ∧ FnOk P w K mg base CX0 1 fI fd (("self" : Str) :: fs) (spInit C fs) ∧ Binds K fd (("self" : Str) :: fs) [] ∧
    ∀ (s : Shared) (u : Value) (ws : List Value), ws.length = fs.length → BindsTo s fd ⟨[u], fs.zip ws⟩ ((("self" : Str) :: fs).zip (u :: ws)) ∧ BindsTo s fd ⟨[u], fs.reverse.zip ws.reverse⟩ ((("self" : Str) :: fs).zip (u :: ws))
def tNew (C : Addr) (fs : List Str) (g : List V → List V) (t : TA) : TE := fun σ H Q => t σ H fun vs H1 => (g vs).length = fs.length ∧ ∀ (a dx : Addr) (H' : Hp), H1 a = none → H1 dx = none → dx ≠ a → H' a = some (exo a C (some dx)) → H' dx = some (exd dx (fs.zip (g vs)).reverse) → Same H1 H' → Q (.ref a) H'
section
variable {X : Cx} {x : Str} {C : Addr} {fs : List Str} {p pos : Pos} {e : Expr} {es : List Expr} {kws : List Keyword} {t : TA}
theorem run_new {pins : List (Addr × Obj)} {σ : L2.St} {H : Hp} {s : Shared} {Q : VK} {us : List Value} {kw : List (Str × Value)} {all : List Value} {xs : List V} (E : ErrC X.prog X.w X.K X.mg X.base x C fs) (hr : Room 2 X.A) (I : Inv X pins σ H s) (r : Vals xs all)
    (hl : xs.length = fs.length) (hz : us.length ≤ sizeLine) (bnd : ∀ (fI : Addr) (fd : FuncData), PySem.W.findIn X.K (.ref C) "__init__" = some (some (.ref fI)) → FnOk X.prog X.w X.K X.mg X.base CX0 1 fI fd (("self" : Str) :: fs) (spInit C fs) → Binds X.K fd (("self" : Str) :: fs) [] →
      (∀ (s : Shared) (u : Value) (ws : List Value), ws.length = fs.length → BindsTo s fd ⟨[u], fs.zip ws⟩ ((("self" : Str) :: fs).zip (u :: ws)) ∧ BindsTo s fd ⟨[u], fs.reverse.zip ws.reverse⟩ ((("self" : Str) :: fs).zip (u :: ws))) →
      ∀ (s : Shared) (u : Value), X.K.In s.heap → BindsTo s fd ⟨u :: us, kw⟩ ((("self" : Str) :: fs).zip (u :: all)))
    (h : ∀ (a dx : Addr) (H' : Hp), H a = none → H dx = none → dx ≠ a → H' a = some (exo a C (some dx)) → H' dx = some (exd dx (fs.zip xs).reverse) → Same H H' → Q (.ref a) H') :
    wpAny (model X.prog X.w) X.A (call (.ref C) us kw) (EP X pins σ Q) X.xe s := by
  obtain ⟨nm, q, N, bs, bm, sn, sub, ab, col, dd, k0, k1, k2, k3, k5, hC, hbm⟩ := E.oex.cls
  obtain ⟨fI, fd, iC, tI, F1, b1, b2⟩ := E.ini
  (obtain ⟨hp, g, dr, tk, os⟩ := s)
  (have hsz : hp.objs.size ≤ hp.objs.size + 1 := Nat.le_succ _)
  have hn : H (hp.objs.size + 1) = none := I.hok.fresh hsz
  have kk : ∀ b o, hp.get? b = some o → ((hp.push (PySem.W.kdv_tup us)).push (PySem.HandSPX.excO C hp.objs.size)).get? b = some o := by
    intro b o e
    (exact Heap.get?_push_of_some _ (Heap.get?_push_of_some _ e))
  (have hget : ((hp.push (PySem.W.kdv_tup us)).push (PySem.HandSPX.excO C hp.objs.size)).get? (hp.objs.size + 1) = some (PySem.HandSPX.excO C hp.objs.size) := by heap_get)
  have I2 : Inv X pins σ (upd H (hp.objs.size + 1) (exo (hp.objs.size + 1) C none)) ⟨(hp.push (PySem.W.kdv_tup us)).push (PySem.HandSPX.excO C hp.objs.size), g, dr, tk, os⟩ :=
    I.laid (t' := tk) (a := hp.objs.size + 1) kk hsz (exo_ok hget)
  have r2 : Vals (V.ref (hp.objs.size + 1) :: xs) (Value.ref (hp.objs.size + 1) :: all) := .cons rfl r
  have prom : spInit C fs (.ref (hp.objs.size + 1) :: xs) (upd H (hp.objs.size + 1) (exo (hp.objs.size + 1) C none)) (fun v H2 => v = .non ∧ Q (.ref (hp.objs.size + 1)) H2) E0 := by
    refine ⟨_, xs, rfl, hl, upd_same, fun dx H' n1 n2 g1 g2 g3 => ⟨rfl, ?_⟩⟩
    have n1' : H dx = none := by
      rw [upd_ne n2] at n1
      exact n1
    refine h _ dx H' hn n1' n2 g1 g2 fun b o e => ?_
    have nb := ne_of_none e hn
    rw [g3 b nb (ne_of_none e n1'), upd_ne nb]
    exact e
  refine wpAny_call (PySem.KX.call_kw F.excBase_ValueError (fun Y => PySem.HandSPX.refsVE_contains Y bm hbm) (I.kIn _ _ hC) (PySem.W.looks_findIn I.kIn iC) (fun self => PySem.W.bind_fn I.kIn self tI) hz
    (codeAny_mono (F1.run _ X.stack _ _ ⟨Value.ref (hp.objs.size + 1) :: us, kw⟩ (Value.ref (hp.objs.size + 1) :: all) _ _ E0 (hr.make C us kw) (I2.env0.make C us kw) (bnd fI fd iC F1 b1 b2 _ _ I2.kIn) r2 prom) fun r s' hq => ?_))
  match r, hq with
  | .ok (.ret u), hq =>
    obtain ⟨v, H2, I3, rv, ev, q3⟩ := I2.after hq
    subst ev
    exact ⟨rv, ⟨V.ref (hp.objs.size + 1), H2, I3, rfl, q3⟩⟩
theorem pe_new (E : ErrC X.prog X.w X.K X.mg X.base x C fs) (hr : Room 2 X.A) (hf : fs.length ≤ 100) (hg : Gl X x) (ha : PA X (e :: es) t) (hdb : (x == ("__debug__" : Str)) = false := by decide)
    (he : starEach (e :: es) X.env = (false, eval e X.env) :: starEach es X.env := by rfl) (hpl : (backTo pos (starEach es X.env)).any (·.1) = false := by rfl) : PE X (.Call (.Name x p) (e :: es) [] pos) (tNew C fs id t) := by
  (refine ⟨fun pins s σ H Q I h => ?_⟩)
  refine wpAny_Call_Name_kw (ld_glob I hg E.g ?_ hdb)
  refine PySem.W.callWith_K (h₀ := X.base) I.ok.mod.kin E.oex.kC (thn (ha.run pos pins s σ H _ I h) fun us s1 ⟨vs, H1, I1, r, hl, q⟩ => ⟨I1.kIn, ?_⟩) he hpl
  have hl' : vs.length = fs.length := hl
  have hu : us.length = fs.length := r.length.symm.trans hl'
  refine run_new E hr I1 r hl' (Nat.le_of_lt (small1000 (by show us.length ≤ 1000; omega))) (fun fI fd _ _ b1 _ s u X' => ?_) q
  have := b1 s (u :: us) X' (by rw [List.append_nil, List.length_cons, hu]; rfl)
  rw [List.append_nil] at this
  exact this
theorem pe_newK (E : ErrC X.prog X.w X.K X.mg X.base x C fs) (hr : Room 2 X.A) (hg : Gl X x) (hkw : PK X kws t)
    (hall : (backToKw pos (keywordEach kws X.env)).all (·.1.isSome) = true := by rfl) (hks : (backToKw pos (keywordEach kws X.env)).filterMap (·.1) = fs := by rfl) (hdb : (x == ("__debug__" : Str)) = false := by decide)
    (hpl : ((backTo pos (starEach [] X.env)).any (·.1) || (backToKw pos (keywordEach kws X.env)).any (·.1.isNone)) = false := by rfl) : PE X (.Call (.Name x p) [] kws pos) (tNew C fs id t) := by
  (refine ⟨fun pins s σ H Q I h => ?_⟩)
  refine wpAny_Call_Name_kw (ld_glob I hg E.g ?_ hdb)
  refine PySem.W.callWith_KW0 (h₀ := X.base) I.ok.mod.kin E.oex.kC hall ?_ hpl
  refine thn (hkw.run pos pins s σ H _ I h) fun ws s2 ⟨zs, H2, I2, rz, hl, q⟩ => ⟨I2.kIn, ?_⟩
  rw [hks]
  have hl' : zs.length = fs.length := hl
  exact run_new (us := []) E hr I2 rz hl' (Nat.zero_le _) (fun fI fd _ _ _ b2 s u _ => (b2 s u ws (rz.length.symm.trans hl')).1) q
theorem pe_newKR (E : ErrC X.prog X.w X.K X.mg X.base x C fs) (hr : Room 2 X.A) (hg : Gl X x) (hkw : PK X kws t)
    (hall : (backToKw pos (keywordEach kws X.env)).all (·.1.isSome) = true := by rfl) (hks : (backToKw pos (keywordEach kws X.env)).filterMap (·.1) = fs.reverse := by rfl) (hdb : (x == ("__debug__" : Str)) = false := by decide)
    (hpl : ((backTo pos (starEach [] X.env)).any (·.1) || (backToKw pos (keywordEach kws X.env)).any (·.1.isNone)) = false := by rfl) : PE X (.Call (.Name x p) [] kws pos) (tNew C fs List.reverse t) := by
  (refine ⟨fun pins s σ H Q I h => ?_⟩)
  refine wpAny_Call_Name_kw (ld_glob I hg E.g ?_ hdb)
  refine PySem.W.callWith_KW0 (h₀ := X.base) I.ok.mod.kin E.oex.kC hall ?_ hpl
  refine thn (hkw.run pos pins s σ H _ I h) fun ws s2 ⟨zs, H2, I2, rz, hl, q⟩ => ⟨I2.kIn, ?_⟩
  rw [hks]
  have hl' : zs.reverse.length = fs.length := hl
  have rr : Vals zs.reverse ws.reverse := by
    have key : ∀ {a : List V} {b : List Value}, Vals a b → Vals a.reverse b.reverse := by
      intro a b r
      induction r with
      | nil => exact .nil
      | cons r1 _ ih =>
        (rw [List.reverse_cons, List.reverse_cons])
        exact ih.append (.cons r1 .nil)
    exact key rz
  refine run_new (us := []) E hr I2 rr hl' (Nat.zero_le _) (fun fI fd _ _ _ b2 s u _ => ?_) q
  have := (b2 s u ws.reverse (rr.length.symm.trans hl')).2
  rw [List.reverse_reverse] at this
  exact this
theorem pe_new0 (q : PySem.W.excIn X.K C [.type "ValueError", .type "Exception", .type "BaseException", .type "object"] "ValueError.__new__" = true) (gC : X.mg x = some (.ref C)) (kC : PySem.W.keepIn X.K (.ref C) = true) (hg : Gl X x) (hdb : (x == ("__debug__" : Str)) = false := by decide) :
    PE X (.Call (.Name x p) [] [] pos) (fun σ H Q => ∀ a, H a = none → Q (.ref a) (upd H a (exo a C none))) := by
  (refine ⟨fun pins s σ H Q I h => ?_⟩)
  (refine wpAny_Call_Name_kw (ld_glob I hg gC ?_ hdb))
  refine PySem.W.callWith_K0 I.kIn kC ?_
  show wpAny _ _ (call (.ref C) []) _ _ _
  obtain ⟨bm, N, nm, qn, bs, hdct, sn, sub, ab, col, dd, k0, k1, k2, k3, k5, mN, hC, hN, hni, T⟩ := exc_obj I.kIn q
  refine wpAny_call_exc_subT F.excBase_ValueError T hC hN hni (fun h' a hm => ?_) (Nat.zero_le _)
  have hn : H a = none := I.hok.gone hm.new
  (obtain ⟨t, ht, _, _⟩ := hm.there)
  exact ⟨.ref a, upd H a (exo a C none), I.laidN hm.keeps hm.new hn (exo_ok ht), rfl, h a hn⟩
end
end KB
namespace KB
open PySem L2 PySem.Spec PyProof.Rows
section
variable {P : Program} {w : World} {K : PySem.W.Frag} {mg : Str → Option Value} {base : Heap} {C : Addr}
theorem FnScope.vis {N ps : List Str} {sc : Scope} (S : FnScope N ps sc) {x : Str} (h : x ∈ ps) : Vis sc x := (S.par x h).elim .inl fun z => .inr (.inl z)
theorem ini1 {qual f : Str} {params : Arguments} {scope : Scope} {q1 q2 q3 q4 : Pos} {fI : Addr} {fd : FuncData}
    (F : FunD K "__init__" qual params [.Assign [.Attribute (.Name "self" q1) f q2] (.Name f q3) q4] scope [] [] fI fd) (S : FnScope ["self", f] ["self", f] scope) (T : OexC K C) (hno : PySem.W.findIn K (.ref C) f = some none)
    (hd : (f == ("__debug__" : Str)) = false) (hc : (f == ("__classdict__" : Str)) = false) : FnOk P w K mg base CX0 1 fI fd ["self", f] (spInit C [f]) := by
  refine F.ok S (fun vs H Q E h => ?_) (fun cdv A outer s H vs Q E hr h => ?_)
  · obtain ⟨a, xs, rfl, hl, _⟩ := h
    exact congrArg (· + 1) hl
  · obtain ⟨a, xs, rfl, hl, ha, q⟩ := h
    match xs, hl with
    | [y], _ =>
      refine ⟨_, PSs.nox (pss_one (ps_ost (pv 0 rfl (FnScope.vis S (by simp))) (pv 1 rfl (FnScope.vis S (by simp)) hd hc))), ?_⟩
      refine ⟨_, rfl, _, rfl, a, C, rfl, T, hno, .inl ⟨ha, fun dx n ne => ?_⟩⟩
      refine q dx _ n ne upd_same ?_ fun b b1 b2 => ?_
      · rw [upd_ne ne, upd_same]
        rfl
      · rw [upd_ne b1, upd_ne b2]
theorem ini2 {qual f g : Str} {params : Arguments} {scope : Scope} {q1 q2 q3 q4 p1 p2 p3 p4 : Pos} {fI : Addr} {fd : FuncData}
    (F : FunD K "__init__" qual params [.Assign [.Attribute (.Name "self" q1) f q2] (.Name f q3) q4, .Assign [.Attribute (.Name "self" p1) g p2] (.Name g p3) p4] scope [] [] fI fd) (S : FnScope ["self", f, g] ["self", f, g] scope) (T : OexC K C)
    (hno : PySem.W.findIn K (.ref C) f = some none) (hno2 : PySem.W.findIn K (.ref C) g = some none)
    (hd : (f == ("__debug__" : Str)) = false) (hc : (f == ("__classdict__" : Str)) = false) (hd2 : (g == ("__debug__" : Str)) = false) (hc2 : (g == ("__classdict__" : Str)) = false) : FnOk P w K mg base CX0 1 fI fd ["self", f, g] (spInit C [f, g]) := by
  refine F.ok S (fun vs H Q E h => ?_) (fun cdv A outer s H vs Q E hr h => ?_)
  · obtain ⟨a, xs, rfl, hl, _⟩ := h
    exact congrArg (· + 1) hl
  · obtain ⟨a, xs, rfl, hl, ha, q⟩ := h
    match xs, hl with
    | [y, z], _ =>
      refine ⟨_, PSs.nox (pss_cons (ps_ost (pv 0 rfl (FnScope.vis S (by simp))) (pv 1 rfl (FnScope.vis S (by simp)) hd hc)) (pss_one (ps_ost (pv 0 rfl (FnScope.vis S (by simp))) (pv 2 rfl (FnScope.vis S (by simp)) hd2 hc2)))), ?_⟩
      refine ⟨_, rfl, _, rfl, a, C, rfl, T, hno, .inl ⟨ha, fun dx n ne => ?_⟩⟩
      refine ⟨_, rfl, _, rfl, a, C, rfl, T, hno2, .inr ⟨dx, _, upd_same, Eq.trans (upd_ne ne) upd_same, (by show 1 ≤ 900; decide), ?_⟩⟩
      refine q dx _ n ne ?_ upd_same fun b b1 b2 => ?_
      · rw [upd_ne ne.symm, upd_same]
      · rw [upd_ne b2, upd_ne b1, upd_ne b2]
end
def oexB (K : PySem.W.Frag) (C : Addr) : Bool := (match K.lookup C with
  | some ⟨.type "type", _, .cls cd, sl⟩ => (match (cd.mro), (sl.toList) with
    | .ref C' :: bm, [_, _, _, _, some (.builtin n), _] => C' == C && (n == "ValueError.__new__" && (!cd.hasDel && (cd.hasDict && PySem.HandSPX.refsVE bm)))
    | _, _ => false)
  | _ => false) && (decide (PySem.W.findIn K (.ref C) "__setattr__" = some (some (.builtin "object.__setattr__"))) && (decide (PySem.W.subIn K (.ref C) (.type "BaseException") = some true) &&
    (decide (PySem.W.typeIn K (.ref C) = some (.type "type")) && PySem.W.keepIn K (.ref C))))
theorem oexB_ok {K : PySem.W.Frag} {C : Addr} (h : oexB K C = true) : OexC K C := by
  (obtain ⟨h1, h⟩ := Bool.and_eq_true_iff.mp h)
  (obtain ⟨h2, h⟩ := Bool.and_eq_true_iff.mp h)
  obtain ⟨h3, h⟩ := Bool.and_eq_true_iff.mp h
  obtain ⟨h4, h5⟩ := Bool.and_eq_true_iff.mp h
  refine ⟨?_, of_decide_eq_true h2, of_decide_eq_true h3, of_decide_eq_true h4, h5⟩
  split at h1
  · rename_i dd cd sl ho
    split at h1
    · (rename_i C' bm k0 k1 k2 k3 n k5 hm hs)
      simp only [Bool.and_eq_true, beq_iff_eq, Bool.not_eq_true'] at h1
      obtain ⟨rfl, rfl, hdel, hdct, hbm⟩ := h1
      (obtain ⟨nm, bs, mro, ns, qn, hd, sn, sub, ab, col, del⟩ := cd)
      dsimp only at hm hdel hdct
      subst hm hdel hdct
      have hsl : sl = #[k0, k1, k2, k3, some (.builtin "ValueError.__new__"), k5] := by
        obtain ⟨l⟩ := sl
        have hs' : l = _ := hs
        rw [hs']
      subst hsl
      exact ⟨nm, qn, ns, bs, bm, sn, sub, ab, col, dd, k0, k1, k2, k3, k5, ho, hbm⟩
    · cases h1
  · cases h1
def iscB (K : PySem.W.Frag) (C : Addr) : Bool := decide (PySem.W.findIn K (.ref C) "__getattribute__" = some (some (.builtin "BaseException.__getattribute__"))) && (decide (PySem.W.findIn K (.ref C) "__getattr__" = some none) &&
  (decide (PySem.W.subIn K (.ref C) (.type "BaseException") = some true) && (PySem.W.hasDictIn K C && (decide (PySem.W.findIn K (.ref C) "__class__" = some (some (.builtin "object.__class__"))) &&
  (decide (PySem.W.specialIn K (.builtin "object.__class__") "__get__" = some (some (.builtin "getset_descriptor.__get__"))) && (decide (PySem.W.takesIn K (.builtin "object.__class__") = some true) && decide (PySem.W.mroIn K C (.type "object") = some true)))))))
theorem iscB_ok {K : PySem.W.Frag} {C : Addr} (h : iscB K C = true) : IsC K C := by
  (obtain ⟨h1, h⟩ := Bool.and_eq_true_iff.mp h)
  (obtain ⟨h2, h⟩ := Bool.and_eq_true_iff.mp h)
  obtain ⟨h3, h⟩ := Bool.and_eq_true_iff.mp h
  obtain ⟨h4, h⟩ := Bool.and_eq_true_iff.mp h
  obtain ⟨h5, h⟩ := Bool.and_eq_true_iff.mp h
  obtain ⟨h6, h⟩ := Bool.and_eq_true_iff.mp h
  obtain ⟨h7, h8⟩ := Bool.and_eq_true_iff.mp h
  exact ⟨of_decide_eq_true h1, of_decide_eq_true h2, of_decide_eq_true h3, h4, of_decide_eq_true h5, of_decide_eq_true h6, of_decide_eq_true h7, of_decide_eq_true h8⟩
theorem IsC.xf {K : PySem.W.Frag} {C : Addr} (h : IsC K C) : XfC K C := ⟨h.ga, h.gg, h.sub, h.dct⟩
end KB
namespace KB
open PySem L2 PySem.Spec PyProof.Rows
def tMkN (C : Addr) (fs : List Str) (t : TA) : L2.St → Hp → XK → Prop := fun σ H Q => t σ H fun vs H1 => vs.length = fs.length ∧ ∀ d, H1 d = none → Q (.ref C) (some d) (upd H1 d (.xd (fs.zip vs).reverse))
section
variable {X : Cx} {x : Str} {C : Addr} {fs : List Str} {p pos : Pos} {e : Expr} {es : List Expr} {kws : List Keyword} {t : TA}
theorem run_mk {pins : List (Addr × Obj)} {σ : L2.St} {H : Hp} {s : Shared} {Q : XK} {us : List Value} {kw : List (Str × Value)} {all : List Value} {xs : List V} (E : ErrC X.prog X.w X.K X.mg X.base x C fs) (hr : Room 2 X.A) (I : Inv X pins σ H s) (r : Vals xs all)
    (hl : xs.length = fs.length) (hz : us.length ≤ sizeLine) (bnd : ∀ (fI : Addr) (fd : FuncData), Binds X.K fd (("self" : Str) :: fs) [] →
      (∀ (s : Shared) (u : Value) (ws : List Value), ws.length = fs.length → BindsTo s fd ⟨[u], fs.zip ws⟩ ((("self" : Str) :: fs).zip (u :: ws)) ∧ BindsTo s fd ⟨[u], fs.reverse.zip ws.reverse⟩ ((("self" : Str) :: fs).zip (u :: ws))) →
      ∀ (s : Shared) (u : Value), X.K.In s.heap → BindsTo s fd ⟨u :: us, kw⟩ ((("self" : Str) :: fs).zip (u :: all)))
    (h : ∀ d, H d = none → Q (.ref C) (some d) (upd H d (.xd (fs.zip xs).reverse))) : wpAny (model X.prog X.w) X.A (call (.ref C) us kw) (MkP X pins σ Q) X.xe s := by
  obtain ⟨nm, q, N, bs, bm, sn, sub, ab, col, dd, k0, k1, k2, k3, k5, hC, hbm⟩ := E.oex.cls
  obtain ⟨fI, fd, iC, tI, F1, b1, b2⟩ := E.ini
  (obtain ⟨hp, g, dr, tk, os⟩ := s)
  (have hsz : hp.objs.size ≤ hp.objs.size + 1 := Nat.le_succ _)
  have hn : H (hp.objs.size + 1) = none := I.hok.fresh hsz
  have kk : ∀ b o, hp.get? b = some o → ((hp.push (PySem.W.kdv_tup us)).push (PySem.HandSPX.excO C hp.objs.size)).get? b = some o := by
    intro b o e
    (exact Heap.get?_push_of_some _ (Heap.get?_push_of_some _ e))
  (have hget : ((hp.push (PySem.W.kdv_tup us)).push (PySem.HandSPX.excO C hp.objs.size)).get? (hp.objs.size + 1) = some (PySem.HandSPX.excO C hp.objs.size) := by heap_get)
  have I2 : Inv X pins σ (upd H (hp.objs.size + 1) (exo (hp.objs.size + 1) C none)) ⟨(hp.push (PySem.W.kdv_tup us)).push (PySem.HandSPX.excO C hp.objs.size), g, dr, tk, os⟩ :=
    I.laid (t' := tk) (a := hp.objs.size + 1) kk hsz (exo_ok hget)
  have r2 : Vals (V.ref (hp.objs.size + 1) :: xs) (Value.ref (hp.objs.size + 1) :: all) := .cons rfl r
  have prom : spInit C fs (.ref (hp.objs.size + 1) :: xs) (upd H (hp.objs.size + 1) (exo (hp.objs.size + 1) C none)) (fun v H2 => v = .non ∧ ∃ d, H d = none ∧ d ≠ hp.objs.size + 1 ∧ H2 (hp.objs.size + 1) = some (exo (hp.objs.size + 1) C (some d)) ∧
      H2 d = some (exd d (fs.zip xs).reverse) ∧ ∀ b, b ≠ hp.objs.size + 1 → b ≠ d → H2 b = H b) E0 := by
    refine ⟨_, xs, rfl, hl, upd_same, fun dx H' n1 n2 g1 g2 g3 => ⟨rfl, dx, ?_, n2, g1, g2, fun b h1 h2 => ?_⟩⟩
    · rw [upd_ne n2] at n1
      exact n1
    · rw [g3 b h1 h2, upd_ne h1]
  refine wpAny_call (PySem.KX.call_kw F.excBase_ValueError (fun Y => PySem.HandSPX.refsVE_contains Y bm hbm) (I.kIn _ _ hC) (PySem.W.looks_findIn I.kIn iC) (fun self => PySem.W.bind_fn I.kIn self tI) hz
    (codeAny_mono (F1.run _ X.stack _ _ ⟨Value.ref (hp.objs.size + 1) :: us, kw⟩ (Value.ref (hp.objs.size + 1) :: all) _ _ E0 (hr.make C us kw) (I2.env0.make C us kw) (bnd fI fd b1 b2 _ _ I2.kIn) r2 prom) fun r s' hq => ?_))
  match r, hq with
  | .ok (.ret u), ⟨v, H2, os2, bare2, un2, hok2, rv, ev, d, hd1, dne, ea, ed, rest⟩ =>
    subst ev
    (obtain ⟨h2, g2, d2, t2, os'⟩ := s')
    have same : upd (del H2 (hp.objs.size + 1)) d (.xd (fs.zip xs).reverse) = upd H d (.xd (fs.zip xs).reverse) := by
      funext b
      by_cases h1 : b = d
      · rw [h1, upd_same, upd_same]
      · rw [upd_ne h1, upd_ne h1]
        by_cases h3 : b = hp.objs.size + 1
        · rw [h3, del_same, hn]
        · rw [del_ne h3, rest b h3 h1]
    refine ⟨rv, mk_end (raises_own E.oex.exC E.oex.tyC) I hsz kk un2 hok2 os2 bare2 ea ed hd1 ?_⟩
    rw [same]
    exact h d hd1
theorem pmk_new (E : ErrC X.prog X.w X.K X.mg X.base x C fs) (hr : Room 2 X.A) (hf : fs.length ≤ 100) (hg : Gl X x) (ha : PA X (e :: es) t) (hdb : (x == ("__debug__" : Str)) = false := by decide)
    (he : starEach (e :: es) X.env = (false, eval e X.env) :: starEach es X.env := by rfl) (hpl : (backTo pos (starEach es X.env)).any (·.1) = false := by rfl) : PMk X (.Call (.Name x p) (e :: es) [] pos) (tMkN C fs t) := by
  intro pins s σ H Q I h
  refine wpAny_Call_Name_kw (ld_glob I hg E.g ?_ hdb)
  refine PySem.W.callWith_K (h₀ := X.base) I.ok.mod.kin E.oex.kC (thn (ha.run pos pins s σ H _ I h) fun us s1 ⟨vs, H1, I1, r, hl, q⟩ => ⟨I1.kIn, ?_⟩) he hpl
  have hu : us.length = fs.length := r.length.symm.trans hl
  refine run_mk E hr I1 r hl (Nat.le_of_lt (small1000 (by show us.length ≤ 1000; omega))) (fun fI fd b1 _ s u X' => ?_) q
  have := b1 s (u :: us) X' (by rw [List.append_nil, List.length_cons, hu]; rfl)
  rw [List.append_nil] at this
  exact this
theorem pmk_newK (E : ErrC X.prog X.w X.K X.mg X.base x C fs) (hr : Room 2 X.A) (hg : Gl X x) (hkw : PK X kws t)
    (hall : (backToKw pos (keywordEach kws X.env)).all (·.1.isSome) = true := by rfl) (hks : (backToKw pos (keywordEach kws X.env)).filterMap (·.1) = fs := by rfl) (hdb : (x == ("__debug__" : Str)) = false := by decide)
    (hpl : ((backTo pos (starEach [] X.env)).any (·.1) || (backToKw pos (keywordEach kws X.env)).any (·.1.isNone)) = false := by rfl) : PMk X (.Call (.Name x p) [] kws pos) (tMkN C fs t) := by
  intro pins s σ H Q I h
  refine wpAny_Call_Name_kw (ld_glob I hg E.g ?_ hdb)
  refine PySem.W.callWith_KW0 (h₀ := X.base) I.ok.mod.kin E.oex.kC hall ?_ hpl
  refine thn (hkw.run pos pins s σ H _ I h) fun ws s2 ⟨zs, H2, I2, rz, hl, q⟩ => ⟨I2.kIn, ?_⟩
  rw [hks]
  exact run_mk (us := []) E hr I2 rz hl (Nat.zero_le _) (fun fI fd _ b2 s u _ => (b2 s u ws (rz.length.symm.trans hl)).1) q
end
theorem pin_inst {X : Cx} {pins : List (Addr × Obj)} {σ : L2.St} {H : Hp} {s : Shared} {p : Addr × Obj} {C dd : Addr} {fs : List (Str × V)} (I : Inv X pins σ H s) (hp : p ∈ X.pn) (hz : Zc (.ref C) (some dd) p.2) (hf : ∃ vs, p.2.data = .fields vs) (hd : H dd = some (.xd fs)) :
    ∃ od, PySem.W.InstAt s.heap p.1 p.2 C (some od) ∧ ∀ f v, fs.lookup f = some v → ∃ u, RelV v u ∧ PySem.W.lookIn f od = some (some u) := by
  obtain ⟨ha, _⟩ := I.pin p (List.mem_append_left _ hp)
  obtain ⟨vs, hv⟩ := hf
  obtain ⟨mA, hns, rel⟩ := (show ObjOk X.prog X.w H s.heap dd (.xd fs) from I.hok dd _ hd)
  (obtain ⟨od, ho, hl⟩ := lookIn_ns hns)
  refine ⟨od, ⟨ha, hz.1, by unfold PySem.W.notCls; rw [hv] <;> rfl, by rw [hz.2]; exact ho⟩, fun f v q => ?_⟩
  obtain ⟨u, hu, ru⟩ := RelO.some_of (v := v) (o := mA f) (by rw [← q]; exact rel f)
  exact ⟨u, ru, by rw [hl, hu]⟩
def tGetP (K : PySem.W.Frag) (a : Addr) (cls : Value) (d : Option Addr) (f : Str) (te : TE) : TE := fun σ H Q => te σ H fun x H1 => x = .ref a ∧ ∃ (C dd : Addr) (fs : List (Str × V)) (v : V), cls = .ref C ∧ d = some dd ∧ H1 dd = some (.xd fs) ∧ XfC K C ∧ PySem.W.findIn K (.ref C) f = some none ∧ fs.lookup f = some v ∧ Q v H1
theorem pe_getP {X : Cx} {a : Addr} {oe : Obj} {cls : Value} {d : Option Addr} {e : Expr} {te : TE} {f : Str} {pos : Pos} (hp : (a, oe) ∈ X.pn) (hz : Zc cls d oe) (hf : ∃ vs, oe.data = .fields vs) (he : PE X e te)
    (hb : attributeBase e f X.env (eval e X.env) = eval e X.env := by rfl) : PE X (.Attribute e f pos) (tGetP X.K a cls d f te) := by
  (refine ⟨fun pins s σ H Q I h => ?_⟩)
  (refine attr_of hb (thn (he.run pins s σ H _ I h) fun u s1 hh => ?_))
  obtain ⟨x, H1, I1, rx, ex, C, dd, fs, v, ec, ed, hd, T, hno, l, q⟩ := hh
  subst ex ec ed
  (obtain rfl : u = Value.ref a := rx)
  obtain ⟨od, J, look⟩ := pin_inst I1 hp hz hf hd
  obtain ⟨z, rz, hl⟩ := look f v l
  exact HandSPX.exc_get I1.kIn J T.ga T.gg T.exC (PySem.W.findObj_own T.hdC hno rfl hl) (handed_of rz) ⟨v, H1, I1.tok _, rz, q⟩
def rIsP (K : PySem.W.Frag) (a : Addr) (cls : Value) (d : Option Addr) : List V → Hp → VK → Prop := fun xs H Q => ∃ (C dd : Addr) (fs : List (Str × V)) (c : V) (u : Value) (b : Bool), xs = [.ref a, c] ∧ cls = .ref C ∧ d = some dd ∧ H dd = some (.xd fs) ∧ IsC K C ∧ ClsV c u ∧ PySem.W.kitOne K (.ref C) u = some b ∧ Q (.bl b) H
theorem call_isP {X : Cx} {a : Addr} {oe : Obj} {cls : Value} {d : Option Addr} (hp : (a, oe) ∈ X.pn) (hz : Zc cls d oe) (hf : ∃ vs, oe.data = .fields vs) : CallR X (.builtin "isinstance") (rIsP X.K a cls d) := by
  (intro pins s σ H xs us Q I r h)
  obtain ⟨C, dd, fs, c, u, b, rfl, ec, ed, hd, ic, hc, e, q⟩ := h
  subst ec ed
  (obtain ⟨u1, u2, rfl, r1, r2⟩ := vals2 r)
  (cases (show u1 = Value.ref a from r1))
  have e2 := hc.eq r2
  subst e2
  obtain ⟨od, J, _⟩ := pin_inst I hp hz hf hd
  exact PySem.W.kia_one (kitx_exc ic) I.kIn J e (fun z => nomatch z) fun tk => ⟨.bl b, H, I.tok tk, rfl, q⟩
abbrev SpW := Addr → Value → Option Addr → List V → Hp → VK → Prop
structure FnW (P : Program) (w : World) (K : PySem.W.Frag) (mg : Str → Option Value) (base : Heap) (k : Nat) (f : Addr) (fd : FuncData) (ps : List Str) (sp : SpW) : Prop where
  many : ∀ a cls d vs H Q, sp a cls d vs H Q → vs.length = ps.length
  go : ∀ (A : Around) (outer : List Env) (s : Shared) (H : Hp) (args : Args) (us : List Value) (vs : List V) (Q : VK) (p : Addr × Obj) (cls : Value) (d : Option Addr), L2H.RoomH k A → L2H.PinOk outer H s p → Zc cls d p.2 → (∃ xs, p.2.data = .fields xs) →
    Env0 P w K mg base A outer s H → BindsTo s fd args (ps.zip us) → Vals vs us → sp p.1 cls d vs H Q → codeAny (model P w) A (.call (.ref f) args) (fun r z => CR CX0 outer P w H s Q E0 r z) s
def tCallW (a : Addr) (cls : Value) (d : Option Addr) (sp : SpW) (t : TA) : TE := fun σ H Q => t σ H fun vs H1 => sp a cls d vs H1 Q
theorem pe_callW {X : Cx} {k : Nat} {f : Addr} {fd : FuncData} {ps : List Str} {sp : SpW} {a : Addr} {oe : Obj} {cls : Value} {d : Option Addr} {x : Str} {p pos : Pos} {e : Expr} {es : List Expr} {t : TA} (F : FnW X.prog X.w X.K X.mg X.base k f fd ps sp) (hr : L2H.RoomH k X.A)
    (hp : (a, oe) ∈ X.pn) (hz : Zc cls d oe) (hf : ∃ vs, oe.data = .fields vs) (hg : Gl X x) (hm : X.mg x = some (.ref f)) (hk : PySem.W.keepIn X.K (.ref f) = true) (hb : Binds X.K fd ps []) (ha : PA X (e :: es) t) (hdb : (x == ("__debug__" : Str)) = false := by decide) (he : starEach (e :: es) X.env = (false, eval e X.env) :: starEach es X.env := by rfl)
    (hpl : (backTo pos (starEach es X.env)).any (·.1) = false := by rfl) : PE X (.Call (.Name x p) (e :: es) [] pos) (tCallW a cls d sp t) := by
  (refine ⟨fun pins s σ H Q I h => ?_⟩)
  (refine wpAny_Call_Name_kw (ld_glob I hg hm ?_ hdb))
  (refine PySem.W.callWith_K (h₀ := X.base) I.ok.mod.kin hk (thn (ha.run pos pins s σ H _ I h) fun us s1 ⟨vs, H1, I1, r, q⟩ => ⟨I1.kIn, ?_⟩) he hpl)
  have hl : us.length = ps.length := r.length.symm.trans (F.many _ _ _ _ _ _ q)
  have b := hb s1 us I1.kIn (by rw [List.append_nil]; exact hl)
  rw [List.append_nil] at b
  obtain ⟨p1, p2, p3, p4, p5⟩ := I1.pin (a, oe) (List.mem_append_left _ hp)
  have pin : L2H.PinOk X.stack H1 s1 (a, oe) := ⟨p1, p2, fun hm => (List.mem_cons.mp (I1.stkSub a hm)).elim p3 p4, p5⟩
  refine wpAny_call (codeAny_mono (F.go X.A X.stack s1 H1 ⟨us, []⟩ us vs Q (a, oe) cls d hr pin hz hf I1.env0 b r q) fun r z hq => ?_)
  match r, hq with
  | .ok (.ret u), hq => exact I1.after hq
theorem okW {P : Program} {w : World} {K : PySem.W.Frag} {mg : Str → Option Value} {base : Heap} {x qual : Str} {params : Arguments} {body : List Stmt} {scope : Scope} {dvs : List V} {kws : List (Str × V)}
    {f : Addr} {fd : FuncData} {N ps : List Str} {k : Nat} {sp : SpW} (F : FunD K x qual params body scope dvs kws f fd) (S : FnScope N ps scope)
    (many : ∀ a cls d vs H Q, sp a cls d vs H Q → vs.length = ps.length)
    (hbody : ∀ (cdv : Value) (A : Around) (outer : List Env) (s : Shared) (H : Hp) (vs : List V) (Q : VK) (a : Addr) (oe : Obj) (cls : Value) (d : Option Addr), Zc cls d oe → (∃ xs, oe.data = .fields xs) →
      L2H.RoomH k (A.deeper (envOfC qual scope s.heap.objs.size f cdv)) → sp a cls d vs H Q →
      ∃ t, PSs (L2H.cxH CX0 P w K mg base N qual scope f cdv A outer s H E0 (a, oe)).nox body t ∧ t { nx := fun _ H' => Q .non H', rt := Q } (start N vs) H) :
    FnW P w K mg base (k + 1) f fd ps sp := by
  (obtain ⟨oc, od, dV, kV, doc, pm, an, cdv, ct, osl, rfl, lk, hcd, _, _⟩ := F.ex)
  refine ⟨many, ?_⟩
  intro A outer s H args us vs Q p cls d hr hpin hz hf e0 hb r hsp
  have old : ∀ b o, base.get? b = some o → s.heap.get? b = some o := fun b o e => (e0.bs b o e).1
  have KX : K.In s.heap := e0.mod.kin.keeps old
  have slots : ∀ y ∈ ps.zip us, scope.names.lookup y.1 = some .local ∨
      (scope.names.lookup y.1 = some .cell ∧ ((cellsFrom (s.heap.objs.size + 1) scope.names []).lookup y.1).isSome = true) := by
    intro y hy
    cases S.par y.1 (List.of_mem_zip (show (y.1, y.2) ∈ ps.zip us from hy)).1 with
    | inl q => exact .inl q
    | inr q => exact .inr ⟨q, PySem.W.cellsFrom_some _ _ _ (.inl q)⟩
  (refine codeAny_call_function hr.depth (KX _ _ lk) rfl S.co S.gen rfl (PySem.W.codeRec_of KX hcd) (hb _ _ _ _ ?_))
  refine wpAny_newFunctionEnv_cells S.kind slots fun env he s1 ic => ?_
  subst he
  refine ⟨(e0.mod.nolimit.keeps old).keeps ic.toInCall.keep, codeAny_func ?_⟩
  obtain ⟨t, ht, hq⟩ := hbody cdv A outer s H vs Q p.1 p.2 cls d hz hf (hr.deeper _) hsp
  have I : Inv (L2H.cxH CX0 P w K mg base N qual scope f cdv A outer s H E0 p) [] (start N vs) H s1 := L2H.inv_startH S hpin e0 (many _ _ _ _ _ _ hsp) r ic
  refine wpAny_mono (ht.nox.run [] s1 (start N vs) H _ I hq) (fun fl s' hs => ?_) fun e s' hs => hs
  match fl, hs with
  | .ret u, ⟨v, σ', H', J, rv, q⟩ => exact ⟨v, H', J.os, J.bare, J.base, J.hok, rv, q⟩
  | .next, ⟨σ', H', J, q⟩ => exact ⟨V.non, H', J.os, J.bare, J.base, J.hok, rfl, q⟩
  | .brk, ⟨_, _, _, q⟩ => exact q.elim
  | .cont, ⟨_, _, _, q⟩ => exact q.elim
end KB
namespace KB
open PySem L2 PySem.Spec PyProof.Rows
abbrev Clause := Value × Option Nat × List Stmt
def clear (i : Nat) (D : Ends) : Ends := { nx := fun σ H => D.nx (σ.set i none) H, rt := D.rt, bk := fun σ H => D.bk (σ.set i none) H, ct := fun σ H => D.ct (σ.set i none) H }
def Suite (X : Cx) (su : List Stmt) (D : Ends) (cls : Value) (d : Option Addr) (put : Addr → L2.St) (H : Hp) : Prop :=
  ∀ (a : Addr) (oe : Obj) (pn : List (Addr × Obj)), H a = none → Zc cls d oe → (∃ vs, oe.data = .fields vs) → ∃ t, PSs (X.suite a ((a, oe) :: pn)) su t ∧ t D (put a) H
def wClauses (X : Cx) (Wout : WX) (D : Ends) : List Clause → WX
  | [] => Wout
  | (c, none, su) :: r => fun cls d σ H => ∃ b, PySem.W.exmOne X.K cls c = some b ∧ (b = true → Suite X su D cls d (fun _ => σ) H) ∧ (b = false → wClauses X Wout D r cls d σ H)
  | (c, some i, su) :: r => fun cls d σ H => ∃ b, PySem.W.exmOne X.K cls c = some b ∧ (b = true → Suite X su (clear i D) cls d (fun a => σ.set i (some (.ref a))) H) ∧ (b = false → wClauses X Wout D r cls d σ H)
inductive Clauses (X : Cx) : List ExceptHandler → List Clause → Prop
  | nil : Clauses X [] []
  | plain {x : Str} {c : Value} {b0 : Stmt} {suite : List Stmt} {np pos : Pos} {hds : List ExceptHandler} {l : List Clause} (hc : Names X x c) (r : Clauses X hds l) :
      Clauses X (.ExceptHandler (some (.Name x np)) none (b0 :: suite) pos :: hds) ((c, none, b0 :: suite) :: l)
  | named {x n : Str} {i : Nat} {c : Value} {b0 : Stmt} {suite : List Stmt} {np pos : Pos} {hds : List ExceptHandler} {l : List Clause} (hi : X.N[i]? = some n) (hln : X.env.kindOf n = some .local) (hc : Names X x c)
      (r : Clauses X hds l) : Clauses X (.ExceptHandler (some (.Name x np)) (some n) (b0 :: suite) pos :: hds) ((c, some i, b0 :: suite) :: l)
section
variable {X : Cx} {body : List Stmt} {h0 : ExceptHandler} {hds : List ExceptHandler} {l : List Clause} {pos : Pos} {tb : WX → TS} {Wout : WX}
theorem ps_try (hs : X.stack = X.env :: X.outer) (hf : X.env.frame = some X.env.locals) (hN : X.N.Nodup) (tk : Takes X Wout) (hb : ∀ (W : WX) (pn : List (Addr × Obj)) (xe : Value → Shared → Prop), Takes (X.tr pn xe) W → PassesOwn (model X.prog X.w) X.A X.env xe → PSs (X.tr pn xe) body (tb W))
    (hh : Clauses X (h0 :: hds) l) : PS X (.Try body (h0 :: hds) [] [] pos) (fun D σ H => tb (wClauses X Wout D l) D σ H) := by
  (refine ⟨fun pins s σ H D I h => ?_⟩)
  have ok := I.ok
  have frames : X.A.frames = some (X.env :: X.outer) := by
    rw [ok.frames, hs]
  refine wpAny_Try_except ?_
  have bodyRun := fun xx => (hb (wClauses X Wout D l) (X.pn ++ pins) (fun e z => wpAny (model X.prog X.w) X.A (noteFrame e X.env) (fun _ z2 => wpAny (model X.prog X.w) X.A (setFlight e none) (fun _ z3 =>
    wpAny (model X.prog X.w) X.A (handleBy e X.env (h0 :: hds)) (SP X pins D) X.xe z3) X.xe z2) X.xe z) xx PassesOwn.looking).run [] s σ H D (I.toTry _) h
  refine wpAny_mono (bodyRun (fun u s' xx => ?grab)) (fun f s1 hsp => ?flow) (fun e s1 he => he)
  case flow =>
    cases f with
    | next =>
      obtain ⟨σ', H', J', q⟩ := hsp
      (exact wpAny_execs_nil ⟨σ', H', J'.ofTry ok, q⟩)
    | brk =>
      obtain ⟨σ', H', J', q⟩ := hsp
      (exact ⟨σ', H', J'.ofTry ok, q⟩)
    | cont =>
      obtain ⟨σ', H', J', q⟩ := hsp
      (exact ⟨σ', H', J'.ofTry ok, q⟩)
    | ret u =>
      (obtain ⟨v, σ', H', J', r, q⟩ := hsp)
      (exact ⟨v, σ', H', J'.ofTry ok, r, q⟩)
  case grab =>
    (obtain ⟨a, B, sI, pins', σ', H', cls, d, rfl, J', nb, up, sky, na, os, ag, w⟩ := xx)
    (have J : Inv X pins σ' H' sI := J'.ofTry ok)
    have sky2 : Sky B (X.env :: X.outer) a (Zc cls d) X.env.locals s'.heap := by
      rw [← hs]
      exact sky
    (show wpAny (model X.prog X.w) X.A (noteFrame (.ref a) X.env) _ _ _)
    refine Sky.land Zc.steady frames hf sky2 fun g3 fl3 up3 => ?_
    have J3 : Inv X pins σ' H' { s' with heap := g3 } := J.landed nb fl3.1 (up.trans up3) os ag
    (obtain ⟨oe3, vs3, he3, hz3, hd3⟩ := fl3.there)
    have nfr : a ∉ frs (X.env :: X.outer) := by
      intro hm
      obtain ⟨_, o', e', hnf⟩ := fl3.2.2.1.mem hm
      rw [he3] at e'
      cases e'
      exact hnf _ hd3
    (have nL : a ≠ X.env.locals := fun z => nfr (List.mem_filterMap.mpr ⟨X.env, List.mem_cons_self, by rw [hf, z]⟩))
    have nF : a ∉ X.fs := by
      intro hm
      (obtain ⟨e, he, q⟩ := List.mem_filterMap.mp hm)
      (exact nfr (List.mem_filterMap.mpr ⟨e, List.mem_cons_of_mem _ he, q⟩))
    (have S3 := J3.suite he3 hd3 na nL nF)
    have go : ∀ {hds' : List ExceptHandler} {l' : List Clause}, Clauses X hds' l' → wClauses X Wout D l' cls d σ' H' →
        wpAny (model X.prog X.w) X.A (handleBy (.ref a) X.env hds') (SP X pins D) X.xe { s' with heap := g3 } := by
      intro hds' l' hk
      have typ : PySem.W.Looks (model X.prog X.w) g3 (typeOf (.ref a)) cls := fun A Q E s k q => wpAny_typeOf_ref (k _ _ he3) (by rw [hz3.1]; exact q)
      have test : ∀ {x : Str} {c : Value} {np : Pos} {Q : Value → Shared → Prop} {E : Value → Shared → Prop}, Names X x c → Q c { s' with heap := g3 } →
          wpAny (model X.prog X.w) (X.A.mark (some (.ref a))) (eval (.Name x np) X.env) Q E { s' with heap := g3 } := by
        intro x c np Q E hc q
        (obtain ⟨hg, hdbg, hm | ⟨hm, hv, hnn⟩⟩ := hc)
        · (exact ld_glob (X := X.suite a ((a, oe3) :: (X.pn ++ pins))) S3 hg hm q hdbg)
        · (exact ld_blt (X := X.suite a ((a, oe3) :: (X.pn ++ pins))) S3 hg hm hv q hnn hdbg)
      induction hk with
      | nil =>
        intro w
        refine wpAny_handleBy_nil ?_
        (obtain ⟨k1, k2, k3, oe, vs, T, oT, ts', he, hz, hd, h1, hr⟩ := id fl3)
        unfold PySem.passOn
        (refine wpAny_bind (wpAny_field he hd h1 ?_))
        (rw [if_neg (show ¬ ((Value.ref T == Value.none) = true) from by simp)])
        have fin : wpAny (model X.prog X.w) X.A (setFlight (.ref a) X.env.frame) (fun _ s4 => wpAny (model X.prog X.w) X.A (throw (.ref a) : Sem Flow) (SP X pins D) X.xe s4) X.xe { s' with heap := g3 } := by
          rw [hf]
          refine HandSPX.setFlight_upZ fl3 fun g4 hh4 up4 => wpAny_throw (tk _ _ ?_)
          (exact ⟨a, B, sI, pins, σ', H', cls, d, rfl, J, nb, (up.trans up3).trans up4, .inr (.inr (by rw [hs]; exact hh4)), na, os, ag, w⟩)
        first
          | (exact wpAny_bind (wpAny_pure (wpAny_bind fin)))
          | exact wpAny_bind fin
      | @plain x c b0 suite np pos' hds2 l2 hc r ih =>
        intro w
        (obtain ⟨b, hb1, hyes, hno⟩ := w)
        (refine wpAny_handleBy_cons (codeAny_handlers_test ?_) (by intro q; cases q))
        refine test hc ((PySem.W.exm_one (M := model X.prog X.w) (J3.kIn) typ hb1).here ?_)
        cases b with
        | true =>
          (refine codeAny_handlers_suite ?_)
          refine HandSPX.lands_againZ fl3 fun g4 fl4 up4 => ?_
          have J4 : Inv X pins σ' H' { s' with heap := g4 } := J.landed nb fl4.1 ((up.trans up3).trans up4) os ag
          (obtain ⟨oe4, vs4, he4, hz4, hd4⟩ := fl4.there)
          (have S4 := J4.suite he4 hd4 na nL nF)
          obtain ⟨t, ht, hq⟩ := hyes rfl a oe4 (X.pn ++ pins) na hz4 ⟨_, hd4⟩
          refine wpAny_mono (ht.run [] _ _ H' _ S4 hq) (fun f s6 hsp => ?_) fun _ _ z => False.elim z
          match f, hsp with
          | .next, ⟨σ6, H6, S6, q6⟩ => exact ⟨_, _, S6.unsuite ok, q6⟩
          | .brk, ⟨σ6, H6, S6, q6⟩ => exact ⟨_, _, S6.unsuite ok, q6⟩
          | .cont, ⟨σ6, H6, S6, q6⟩ => exact ⟨_, _, S6.unsuite ok, q6⟩
          | .ret u, ⟨v6, σ6, H6, S6, r6, q6⟩ => exact ⟨_, _, _, S6.unsuite ok, r6, q6⟩
        | false => exact ih (hno rfl)
      | @named x n i c b0 suite np pos' hds2 l2 hi hln hc r ih =>
        intro w
        (have hloc : Loc X.env.scope n := .inl hln)
        (obtain ⟨b, hb1, hyes, hno⟩ := w)
        (refine wpAny_handleBy_cons (codeAny_handlers_test ?_) (by intro q; cases q))
        refine test hc ((PySem.W.exm_one (M := model X.prog X.w) (J3.kIn) typ hb1).here ?_)
        cases b with
        | true =>
          (refine codeAny_handlers_suite_as ?_)
          refine HandSPX.lands_againZ fl3 fun g4 fl4 up4 => ?_
          have J4 : Inv X pins σ' H' { s' with heap := g4 } := J.landed nb fl4.1 ((up.trans up3).trans up4) os ag
          (obtain ⟨oe4, vs4, he4, hz4, hd4⟩ := fl4.there)
          (have S4 := J4.suite he4 hd4 na nL nF)
          (refine store_ok (X := X.suite a ((a, oe4) :: (X.pn ++ pins))) (v := .ref a) S4 hN hi hloc rfl (fun s5 S5 => ?_) (.inr hln))
          obtain ⟨t, ht, hq⟩ := hyes rfl a oe4 (X.pn ++ pins) na hz4 ⟨_, hd4⟩
          refine wpAny_mono (ht.run [] s5 _ H' _ S5 hq) (fun f s6 hsp => ?_) fun _ _ z => False.elim z
          have out : ∀ {σ6 : L2.St} {H6 : Hp} {Q : Shared → Prop}, Inv (X.suite a ((a, oe4) :: (X.pn ++ pins))) [] σ6 H6 s6 → (∀ s7, Inv X pins (σ6.set i none) H6 s7 → Q s7) →
              wpAny (model X.prog X.w) X.A (do bindName X.env n .none; unbindBehindTheSuite X.env n pos') (fun _ s7 => Q s7) X.xe s6 :=
            fun {σ6 H6 Q} S6 hq => gone_ok (S6.unsuite ok) hN hi hln hq
          match f, hsp with
          | .next, ⟨σ6, H6, S6, q6⟩ => exact out S6 fun s7 J7 => ⟨_, _, J7, q6⟩
          | .brk, ⟨σ6, H6, S6, q6⟩ => exact out S6 fun s7 J7 => ⟨_, _, J7, q6⟩
          | .cont, ⟨σ6, H6, S6, q6⟩ => exact out S6 fun s7 J7 => ⟨_, _, J7, q6⟩
          | .ret u, ⟨v6, σ6, H6, S6, r6, q6⟩ => exact out S6 fun s7 J7 => ⟨_, _, _, J7, r6, q6⟩
        | false => exact ih (hno rfl)
    exact go hh w
end
end KB
namespace KB
open PySem L2 PySem.Spec PyProof.Rows
section
variable {X : Cx} {CX : CXT} {k : Nat} {f : Addr} {fd : FuncData} {ps ks : List Str} {sp : Sp} {E : L2.St → XK} {x : Str} {p pos : Pos} {kws : List Keyword} {tk : TA} {g : List Value → List Value → List Value} {gV : List V → List V → List V}
theorem run_kwS {pins : List (Addr × Obj)} {σ : L2.St} {H : Hp} {s : Shared} {Q : VK} {us ws : List Value} {vs zs : List V} (F : FnOk X.prog X.w X.K X.mg X.base CX k f fd ps sp) (hr : Room k X.A) (hb : KBinds X.K fd ps ks g gV) (hx : PassesAt CX X σ (E σ))
    (I : Inv X pins σ H s) (r : Vals vs us) (rz : Vals zs ws) (h : sp (gV vs zs) H Q (E σ)) : wpAny (model X.prog X.w) X.A (call (.ref f) us (ks.zip ws)) (EP X pins σ Q) X.xe s := by
  have r2 := hb.rel r rz
  (have hl : (g us ws).length = ps.length := by rw [← r2.length]; exact F.len _ _ _ _ h)
  have b := hb.to s us ws I.kIn hl
  have rn := F.run X.A X.stack s H ⟨us, ks.zip ws⟩ (g us ws) (gV vs zs) Q (E σ) hr I.env0 b r2 h
  refine wpAny_call (codeAny_mono rn fun out s' hq => ?_)
  match out, hq with
  | .error e, hq => exact hx pins H s e s' I hq
  | .ok (.ret u), hq => exact I.after hq
  | .ok .next, hq => exact hq.elim
  | .ok .brk, hq => exact hq.elim
  | .ok .cont, hq => exact hq.elim
theorem pe_callK0S (F : FnOk X.prog X.w X.K X.mg X.base CX k f fd ps sp) (hr : Room k X.A) (hg : Gl X x) (hm : X.mg x = some (.ref f)) (hk : PySem.W.keepIn X.K (.ref f) = true) (hb : KBinds X.K fd ps ks g gV) (hx : ∀ σ, PassesAt CX X σ (E σ))
    (hkw : PK X kws tk) (hall : (backToKw pos (keywordEach kws X.env)).all (·.1.isSome) = true := by rfl) (hks : (backToKw pos (keywordEach kws X.env)).filterMap (·.1) = ks := by rfl)
    (hdb : (x == ("__debug__" : Str)) = false := by decide) (hpl : ((backTo pos (starEach [] X.env)).any (·.1) || (backToKw pos (keywordEach kws X.env)).any (·.1.isNone)) = false := by rfl) :
    PE X (.Call (.Name x p) [] kws pos) (fun σ H Q => tk σ H fun zs H2 => sp (gV [] zs) H2 Q (E σ)) :=
  ⟨fun pins s σ H Q I h => wpAny_Call_Name_kw (ld_glob I hg hm
    (PySem.W.callWith_KW0 (h₀ := X.base) I.ok.mod.kin hk hall (thn (hkw.run pos pins s σ H _ I h) fun ws s2 ⟨zs, H2, I2, rz, q2⟩ => ⟨I2.kIn, by
      rw [hks]
      exact run_kwS F hr hb (hx σ) I2 .nil rz q2⟩) hpl) hdb)⟩
end
end KB
namespace N3
open PySem PySem.Spec PyProof.Rows L2 KB
section
variable {K : PySem.W.Frag} {mg : Str → Option Value} {base : Heap} {P : Program} {w : World}
def lastR (rs : List PyData) (i : Nat) : Str := if i = 0 then "" else nmOf (rs.getD (i - 1) .none)
theorem abc_pos {x : Str} (h : x ∈ abc) : decide (("" : Str).cps.toList < x.cps.toList) = true := by
  simp only [abc, List.mem_cons, List.not_mem_nil, or_false] at h
  rcases h with rfl | rfl | rfl <;> decide +kernel
theorem nmAsc_bad {rs : List PyData} {j : Nat} (hj : j + 1 < rs.length) (h : decide ((nmOf (rs.getD j .none)).cps.toList < (nmOf (rs.getD (j + 1) .none)).cps.toList) = false) : nmAsc rs = false := by
  rw [nmAsc]
  exact range_all_false (i := j) (by omega) h
def spCr0 : Sp := fun vs H Q _ => ∃ (F : Addr → Prop) (v : V) (d : PyData), vs = [v] ∧ Dt F H v d ∧ sz d ≤ 4000000 ∧ IB (bg + 1000) d ∧ isRel d = true ∧ ∀ H', Same H H' → Q .non H'
def spCrX (C : Addr) : Sp := fun vs H Q E => ∃ (F : Addr → Prop) (v : V) (d : PyData), vs = [v] ∧ Dt F H v d ∧ sz d ≤ 4000000 ∧ IB (bg + 1000) d ∧ (isRel d = true → ∀ H', Same H H' → Q .non H') ∧
  (isRel d = false → ∀ (v' : V) (H' : Hp) (dd : Addr), Same H H' → H' dd = none → E (.ref C) (some dd) (upd H' dd (.xd [("index", v')])))
abbrev nCr : List Str := ["relation", "last", "index", "part"]
theorem sc_nCr : FnScope nCr ["relation"] (defScope (top 35)) := ⟨rfl, rfl, rfl, by decide +kernel, rfl, by decide +kernel, by decide +kernel⟩
theorem ok_cr0 {f : Addr} {fd : FuncData} (F : FnP K "check_relation" (top 35) f fd) (B : Bl K mg) (hEn : mg "enumerate" = none) (hV : Has P w K mg base "_relates_a_variable" ["value"] 9 spRv) : FnOk P w K mg base CX0 10 f fd ["relation"] spCr0 := by
  obtain ⟨fV, fdV, kV, gV, bV, GV⟩ := hV
  refine F.ok sc_nCr (fun vs H Q E h => ?_) (fun cdv A outer s H vs Q E hr h => ?_)
  · obtain ⟨F, v, d, rfl, _⟩ := h
    rfl
  · obtain ⟨Fa, v, d, rfl, hd, hsz, hib, rel, qG'⟩ := h
    have qG : isRel d = true → ∀ H', Same H H' → Q .non H' := fun _ => qG'
    have sc := sc_nCr
    have hrV : Room 9 _ := hr
    refine ⟨_, PSs.nox (pss_cons (ps_if (pt_not (pt_val (pe_callB call_isi (by rfl) B.isinstance (by decide +kernel) (pa_cons (pv 0) (pa_cons (pe_bltn (v := .ty "tuple") (by rfl) B.tuple (by decide +kernel) rfl) pa_nil))))) (pss_one ps_never) pss_nil) (pss_cons (ps_set (i := 1) sc.nd rfl (Or.inl rfl) pe_str) (pss_one (ps_for PassesOwn.never rfl (KZ.pi_enumT (by rfl) hEn (pa_cons (pv 0) pa_nil)) (pg_tup rfl (pgs_cons (pg_name (i := 2) sc.nd rfl (Or.inl rfl)) (pgs_cons (pg_name (i := 3) sc.nd rfl (Or.inl rfl)) pgs_nil))) (pss_cons (ps_if (PW.pt (pw_or (pt_not (pt_val (pe_call GV hrV rfl gV kV bV .nil pass0 (pa_cons (pv 3) pa_nil)))) (pw_or1 (pt_cmpR op_le_str (pe_ix ix_tup (pv 3) pe_int (fun _ _ => rfl)) (pv 1) (nomark _))))) (pss_one ps_never) pss_nil) (pss_one (ps_set (i := 1) sc.nd rfl (Or.inl rfl) (pe_ix ix_tup (pv 3) pe_int (fun _ _ => rfl))))))))), ?_⟩
    obtain ⟨ty, tyx, k1, k2, k3, k4⟩ := tyD (K := K) hd
    refine ⟨_, rfl, _, _, ty, _, _, rfl, .ty _, tyx, k3, _, rfl, ?_⟩
    cases it : isTup d with
    | false =>
      rw [isRel_no it] at rel; cases rel
    | true =>
    obtain ⟨ds, rfl⟩ := isTup_of it
    obtain ⟨a, xs, rfl, fa, ha, ra⟩ := hd.tupI
    have ll := ra.length
    have sz0 := sz_tup ds
    have er : isRel (.tuple ds) = (ds.all isRow && nmAsc ds) := rfl
    refine ifF rfl ?_
    refine ⟨_, rfl, a, xs, rfl, SqT.of ha, KZ.for_enumT (K := K) (a := a) (xs := xs) (fun i σ H2 => Same H H2 ∧ (∃ u2 u3 : Option V, σ = [some (.ref a), some (.str (lastR ds i)), u2, u3]) ∧ (ds.take i).all isRow = true ∧ ((List.range (i - 1)).all fun j => decide ((nmOf (ds.getD j .none)).cps.toList < (nmOf (ds.getD (j + 1) .none)).cps.toList)) = true)
      ⟨Same.refl H, ⟨none, none, rfl⟩, rfl, rfl⟩ (fun i σ H2 hP => SqT.of (hP.1 a _ ha)) ?_ ?_⟩
    · rintro i x T σ H2 hi ⟨sm, ⟨u2, u3, rfl⟩, ok, asc⟩ nT
      obtain ⟨de, hde, dx⟩ := ra.get hi
      have il := (List.getElem?_eq_some_iff.mp hde).1
      have me := List.mem_of_getElem? hde
      have mz := szA_mem me
      have s1 := sm.trans (@Same.new T _ (.tup [.int (i : Nat), x]) nT)
      have hT : (upd H2 T (.tup [.int (i : Nat), x])) T = some (.tup [.int (i : Nat), x]) := upd_same
      generalize upd H2 T (.tup [.int (i : Nat), x]) = H3 at s1 hT ⊢
      refine ⟨T, _, rfl, SqT.of hT, rfl, _, _, rfl, _, _, rfl, rfl, ?_⟩
      refine ⟨_, rfl, Fa, x, de, rfl, dx.keep s1, by omega, ib_tup.mp hib de me, fun H4 s4 => ⟨_, rfl, ?_⟩⟩
      have s14 := s1.trans s4
      cases rw1 : isRow de with
      | false =>
        have nr : isRel (.tuple ds) = false := by
          rw [er, Bool.and_eq_false_iff]
          left
          rw [List.all_eq_false]
          exact ⟨de, me, by rw [rw1]; decide⟩
        rw [nr] at rel; cases rel
      | true =>
      refine ifF rfl ?_
      obtain ⟨y, z1, z2, ps, rfl, gy, _⟩ := isRow_ex rw1
      have dx4 := dx.keep s14
      obtain ⟨b, ys, rfl, fb, hb, rb⟩ := dx4.tupI
      cases rb with
      | @cons w0 ys' _ _ r0 rb =>
      have e0 := r0.strI
      subst e0
      have ok' : (ds.take (i + 1)).all isRow = true := by
        rw [take_snoc hde, List.all_append, ok]
        show (true && (isRow _ && true)) = true
        rw [rw1]
        rfl
      have nx : lastR ds (i + 1) = y := by
        rw [lastR, if_neg (Nat.succ_ne_zero i), Nat.add_sub_cancel, getD_of hde]
        rfl
      refine ⟨_, rfl, b, _, 0, _, rfl, rfl, SqT.of hb, atI_nat (j := 0) rfl, _, rfl, _, _, rfl, rfl, _, rfl, ?_⟩
      cases lt : decide ((lastR ds i).cps.toList < y.cps.toList) with
      | false =>
        have nr : isRel (.tuple ds) = false := by
          rw [er, Bool.and_eq_false_iff]
          right
          cases i with
          | zero =>
            have : lastR ds 0 = "" := rfl
            rw [this, abc_pos gy] at lt
            cases lt
          | succ j =>
            rw [lastR, if_neg (Nat.succ_ne_zero j), Nat.add_sub_cancel] at lt
            refine nmAsc_bad (j := j) il ?_
            rw [getD_of hde]
            exact lt
        rw [nr] at rel; cases rel
      | true =>
        refine ifF rfl ?_
        refine ⟨_, rfl, b, _, 0, _, rfl, rfl, SqT.of hb, atI_nat (j := 0) rfl, s14, ⟨_, _, by rw [nx]; rfl⟩, ok', ?_⟩
        cases i with
        | zero => rfl
        | succ j =>
          rw [show j + 1 + 1 - 1 = (j + 1 - 1) + 1 by omega, List.range_succ, List.all_append, asc]
          rw [lastR, if_neg (Nat.succ_ne_zero j), Nat.add_sub_cancel] at lt
          show (true && (decide ((nmOf (ds.getD j .none)).cps.toList < (nmOf (ds.getD (j + 1) .none)).cps.toList) && true)) = true
          rw [getD_of hde, Bool.true_and, Bool.and_true]
          exact lt
    · rintro σ H2 ⟨sm, _, ok, asc⟩
      rw [ll] at ok asc
      rw [List.take_length] at ok
      refine qG ?_ H2 sm
      rw [er, ok, nmAsc, asc]
      rfl
theorem ok_crX {f C : Addr} {fd : FuncData} (F : FnP K "check_relation" (top 35) f fd) (B : Bl K mg) (hEn : mg "enumerate" = none) (EC : ErrC P w K mg base "InvalidRelation" C ["index"]) (hV : Has P w K mg base "_relates_a_variable" ["value"] 9 spRv) : FnOk P w K mg base (L2.CX P w) 10 f fd ["relation"] (spCrX C) := by
  obtain ⟨fV, fdV, kV, gV, bV, GV⟩ := hV
  refine F.ok (CX := L2.CX P w) sc_nCr (fun vs H Q E h => ?_) (fun cdv A outer s H vs Q E hr h => ?_)
  · obtain ⟨F, v, d, rfl, _⟩ := h
    rfl
  · obtain ⟨Fa, v, d, rfl, hd, hsz, hib, qG, qB⟩ := h
    have sc := sc_nCr
    have hrV : Room 9 _ := hr
    have hrE : Room 2 _ := hr.mono (by omega)
    refine ⟨_, (pss_cons (ps_if (pt_not (pt_val (pe_callB call_isi (by rfl) B.isinstance (by decide +kernel) (pa_cons (pv 0) (pa_cons (pe_bltn (v := .ty "tuple") (by rfl) B.tuple (by decide +kernel) rfl) pa_nil))))) (pss_one (ps_raise rfl (takes_of rfl rfl rfl rfl) (pmk_new EC hrE (by decide) (by rfl) (pa_cons pe_non pa_nil)))) pss_nil) (pss_cons (ps_set (i := 1) sc.nd rfl (Or.inl rfl) pe_str) (pss_one (ps_for (passes_of rfl) rfl (KZ.pi_enumT (by rfl) hEn (pa_cons (pv 0) pa_nil)) (pg_tup rfl (pgs_cons (pg_name (i := 2) sc.nd rfl (Or.inl rfl)) (pgs_cons (pg_name (i := 3) sc.nd rfl (Or.inl rfl)) pgs_nil))) (pss_cons (ps_if (PW.pt (pw_or (pt_not (pt_val (pe_call GV hrV rfl gV kV bV .nil pass0 (pa_cons (pv 3) pa_nil)))) (pw_or1 (pt_cmpR op_le_str (pe_ix ix_tup (pv 3) pe_int (fun _ _ => rfl)) (pv 1) (nomark _))))) (pss_one (ps_raise rfl (takes_of rfl rfl rfl rfl) (pmk_new EC hrE (by decide) (by rfl) (pa_cons (pv 2) pa_nil)))) pss_nil) (pss_one (ps_set (i := 1) sc.nd rfl (Or.inl rfl) (pe_ix ix_tup (pv 3) pe_int (fun _ _ => rfl))))))))), ?_⟩
    obtain ⟨ty, tyx, k1, k2, k3, k4⟩ := tyD (K := K) hd
    refine ⟨_, rfl, _, _, ty, _, _, rfl, .ty _, tyx, k3, _, rfl, ?_⟩
    cases it : isTup d with
    | false =>
      exact ifT rfl ⟨rfl, fun dd nd => qB (isRel_no it) _ _ dd (Same.refl H) nd⟩
    | true =>
    obtain ⟨ds, rfl⟩ := isTup_of it
    obtain ⟨a, xs, rfl, fa, ha, ra⟩ := hd.tupI
    have ll := ra.length
    have sz0 := sz_tup ds
    have er : isRel (.tuple ds) = (ds.all isRow && nmAsc ds) := rfl
    refine ifF rfl ?_
    refine ⟨_, rfl, a, xs, rfl, SqT.of ha, KZ.for_enumT (K := K) (a := a) (xs := xs) (fun i σ H2 => Same H H2 ∧ (∃ u2 u3 : Option V, σ = [some (.ref a), some (.str (lastR ds i)), u2, u3]) ∧ (ds.take i).all isRow = true ∧ ((List.range (i - 1)).all fun j => decide ((nmOf (ds.getD j .none)).cps.toList < (nmOf (ds.getD (j + 1) .none)).cps.toList)) = true)
      ⟨Same.refl H, ⟨none, none, rfl⟩, rfl, rfl⟩ (fun i σ H2 hP => SqT.of (hP.1 a _ ha)) ?_ ?_⟩
    · rintro i x T σ H2 hi ⟨sm, ⟨u2, u3, rfl⟩, ok, asc⟩ nT
      obtain ⟨de, hde, dx⟩ := ra.get hi
      have il := (List.getElem?_eq_some_iff.mp hde).1
      have me := List.mem_of_getElem? hde
      have mz := szA_mem me
      have s1 := sm.trans (@Same.new T _ (.tup [.int (i : Nat), x]) nT)
      have hT : (upd H2 T (.tup [.int (i : Nat), x])) T = some (.tup [.int (i : Nat), x]) := upd_same
      generalize upd H2 T (.tup [.int (i : Nat), x]) = H3 at s1 hT ⊢
      refine ⟨T, _, rfl, SqT.of hT, rfl, _, _, rfl, _, _, rfl, rfl, ?_⟩
      refine ⟨_, rfl, Fa, x, de, rfl, dx.keep s1, by omega, ib_tup.mp hib de me, fun H4 s4 => ⟨_, rfl, ?_⟩⟩
      have s14 := s1.trans s4
      cases rw1 : isRow de with
      | false =>
        have nr : isRel (.tuple ds) = false := by
          rw [er, Bool.and_eq_false_iff]
          left
          rw [List.all_eq_false]
          exact ⟨de, me, by rw [rw1]; decide⟩
        exact ifT rfl ⟨_, rfl, rfl, fun dd nd => qB nr _ _ dd s14 nd⟩
      | true =>
      refine ifF rfl ?_
      obtain ⟨y, z1, z2, ps, rfl, gy, _⟩ := isRow_ex rw1
      have dx4 := dx.keep s14
      obtain ⟨b, ys, rfl, fb, hb, rb⟩ := dx4.tupI
      cases rb with
      | @cons w0 ys' _ _ r0 rb =>
      have e0 := r0.strI
      subst e0
      have ok' : (ds.take (i + 1)).all isRow = true := by
        rw [take_snoc hde, List.all_append, ok]
        show (true && (isRow _ && true)) = true
        rw [rw1]
        rfl
      have nx : lastR ds (i + 1) = y := by
        rw [lastR, if_neg (Nat.succ_ne_zero i), Nat.add_sub_cancel, getD_of hde]
        rfl
      refine ⟨_, rfl, b, _, 0, _, rfl, rfl, SqT.of hb, atI_nat (j := 0) rfl, _, rfl, _, _, rfl, rfl, _, rfl, ?_⟩
      cases lt : decide ((lastR ds i).cps.toList < y.cps.toList) with
      | false =>
        have nr : isRel (.tuple ds) = false := by
          rw [er, Bool.and_eq_false_iff]
          right
          cases i with
          | zero =>
            have : lastR ds 0 = "" := rfl
            rw [this, abc_pos gy] at lt
            cases lt
          | succ j =>
            rw [lastR, if_neg (Nat.succ_ne_zero j), Nat.add_sub_cancel] at lt
            refine nmAsc_bad (j := j) il ?_
            rw [getD_of hde]
            exact lt
        exact ifT rfl ⟨_, rfl, rfl, fun dd nd => qB nr _ _ dd s14 nd⟩
      | true =>
        refine ifF rfl ?_
        refine ⟨_, rfl, b, _, 0, _, rfl, rfl, SqT.of hb, atI_nat (j := 0) rfl, s14, ⟨_, _, by rw [nx]; rfl⟩, ok', ?_⟩
        cases i with
        | zero => rfl
        | succ j =>
          rw [show j + 1 + 1 - 1 = (j + 1 - 1) + 1 by omega, List.range_succ, List.all_append, asc]
          rw [lastR, if_neg (Nat.succ_ne_zero j), Nat.add_sub_cancel] at lt
          show (true && (decide ((nmOf (ds.getD j .none)).cps.toList < (nmOf (ds.getD (j + 1) .none)).cps.toList) && true)) = true
          rw [getD_of hde, Bool.true_and, Bool.and_true]
          exact lt
    · rintro σ H2 ⟨sm, _, ok, asc⟩
      rw [ll] at ok asc
      rw [List.take_length] at ok
      refine qG ?_ H2 sm
      rw [er, ok, nmAsc, asc]
      rfl
abbrev nIre : List Str := ["value"]
theorem sc_nIre : FnScope nIre ["value"] (defScope (top 31)) := ⟨rfl, rfl, rfl, by decide +kernel, rfl, by decide +kernel, by decide +kernel⟩
def spIre : Sp := fun vs H Q _ => ∃ (F : Addr → Prop) (v : V) (d : PyData), vs = [v] ∧ Dt F H v d ∧ sz d ≤ 4000000 ∧ IB (bg + 1000) d ∧ ∀ H', Same H H' → Q (.bl (isRel d)) H'
theorem ok_ire {f C : Addr} {fd : FuncData} (F : FnP K "is_relation" (top 31) f fd) (EC : ErrC P w K mg base "InvalidRelation" C ["index"]) (eC : PySem.W.exmOne K (.ref C) (.ref C) = some true) {fC : Addr} {fdC : FuncData} (kC : PySem.W.keepIn K (.ref fC) = true) (gC : mg "check_relation" = some (.ref fC)) (bC : Binds K fdC ["relation"] [])
    (GC : FnOk P w K mg base (L2.CX P w) 10 fC fdC ["relation"] (spCrX C)) : FnOk P w K mg base CX0 11 f fd ["value"] spIre := by
  refine F.ok sc_nIre (fun vs H Q E h => ?_) (fun cdv A outer s H vs Q E hr h => ?_)
  · obtain ⟨F, v, d, rfl, _⟩ := h
    rfl
  · obtain ⟨Fa, v, d, rfl, hd, hsz, hib, q⟩ := h
    have sc := sc_nIre
    have hrC : Room 10 _ := hr
    refine ⟨_, PSs.nox (pss_cons (ps_try rfl rfl sc.nd takes0 (fun W pn xe tk po => (pss_one (ps_expr (pe_callS GC hrC rfl gC kC bC (fun σ => passAt tk σ) (pa_cons (pv 0) pa_nil))))) (.plain ⟨rfl, by decide, .inl EC.g⟩ .nil)) (pss_one (ps_ret pe_bl))), ?_⟩
    refine ⟨_, rfl, Fa, v, d, rfl, hd, hsz, hib, fun hn H1 s1 => ?_, fun hn v' H1 dd s1 nd => ?_⟩
    · rw [hn] at q
      exact q H1 s1
    · rw [hn] at q
      exact ⟨true, eC, fun _ a oe pn na hz hf => ⟨_, (pss_one (ps_ret pe_bl)), q _ (s1.trans (Same.new nd))⟩, nofun⟩
end
end N3
namespace KB
open PySem L2 PySem.Spec PyProof.Rows
theorem lc_zipT {K : PySem.W.Frag} {a b : Addr} {xs ys : List V} {g : TG} {tt : TT} {te : TE} {vs : List Nat} {σ : L2.St} {H1 : Hp} {D : Addr} {Qd : Hp → Prop} (Pv : Nat → Hp → Prop)
    (h0 : Pv 0 (upd H1 D (.lst []))) (hq : ∀ i H, Pv i H → SqT K H a xs ∧ SqT K H b ys)
    (hs : ∀ (i : Nat) (x y : V) (T : Addr) (H : Hp), xs[i]? = some x → ys[i]? = some y → Pv i H → H T = none → g (.ref T) (wipe σ vs) (upd H T (.tup [x, y])) fun σ2 H2 => wipe σ2 vs = wipe σ vs ∧ tt σ2 H2 fun c H3 =>
      if c = true then te σ2 H3 fun y H4 => ∃ acc, H4 D = some (.lst acc) ∧ acc.length < sizeLine ∧ Pv (i + 1) (upd H4 D (.lst (acc ++ [y]))) else Pv (i + 1) H3)
    (hd : ∀ i H, (xs.length ≤ i ∨ ys.length ≤ i) → i ≤ xs.length → i ≤ ys.length → Pv i H → Qd H) : ∃ W : Nat → Nat → Hp → Prop, (∃ m, W 0 m (upd H1 D (.lst []))) ∧ ∀ i m H, W i m H →
      ((RZ.ItzT K a b).stop i H ∧ Qd H) ∨ ((RZ.ItzT K a b).go i H ∧ ∃ Nx : Hp → Prop, (∀ H', Nx H' → ∃ m', m' < m ∧ W (i + 1) m' H') ∧ ∀ x H', (RZ.ItzT K a b).yld i H x H' →
        g x (wipe σ vs) H' fun σ2 H2 => wipe σ2 vs = wipe σ vs ∧ tt σ2 H2 fun c H3 =>
          if c = true then te σ2 H3 fun y H4 => ∃ acc, H4 D = some (.lst acc) ∧ acc.length < sizeLine ∧ Nx (upd H4 D (.lst (acc ++ [y]))) else Nx H3) := by
  refine ⟨fun i m H => m = xs.length - i ∧ (i ≤ xs.length ∧ i ≤ ys.length) ∧ Pv i H, ⟨xs.length, rfl, ⟨Nat.zero_le _, Nat.zero_le _⟩, h0⟩, ?_⟩
  rintro i m H ⟨rfl, ⟨hx, hy⟩, p⟩
  obtain ⟨qx, qy⟩ := hq i H p
  by_cases lx : i < xs.length
  · by_cases ly : i < ys.length
    · refine .inr ⟨⟨xs, ys, _, _, qx, qy, List.getElem?_eq_getElem lx, List.getElem?_eq_getElem ly⟩, Pv (i + 1), fun H' p' => ⟨xs.length - (i + 1), by omega, rfl, ⟨lx, ly⟩, p'⟩, fun v H' z => ?_⟩
      obtain ⟨T, x', y', rfl, hT, rfl, f1, f2⟩ := z
      exact hs i x' y' T H (f1 xs qx) (f2 ys qy) p hT
    · have e : ys.length ≤ i := by omega
      exact .inl ⟨⟨xs, ys, qx, qy, .inr e⟩, hd i H (.inr e) hx hy p⟩
  · have e : xs.length ≤ i := by omega
    exact .inl ⟨⟨xs, ys, qx, qy, .inl e⟩, hd i H (.inl e) hx hy p⟩
end KB
namespace N3
open PySem PySem.Spec PyProof.Rows L2 KB
section
variable {K : PySem.W.Frag} {mg : Str → Option Value} {base : Heap} {P : Program} {w : World}
def cA : PyData → PyData
  | .tuple [x, k1, _, _] => .tuple [x, k1]
  | d => d
def cB : PyData → PyData
  | .tuple [x, _, k2, _] => .tuple [x, k2]
  | d => d
def filD (rs : List PyData) : PyData := .tuple [.tuple (rs.map cA), .tuple (rs.map cB)]
def spBf : Sp := fun vs H Q _ => ∃ (F : Addr → Prop) (v : V) (rs : List PyData), vs = [v] ∧ (∀ p, H p = none → F p) ∧ Dt F H v (.tuple rs) ∧ rs.all isRow = true ∧ rs.length ≤ 4000000 ∧ ∀ (v' : V) (H' : Hp), Same H H' → Dt F H' v' (filD rs) → Q v' H'
theorem row_at {F : Addr → Prop} {H : Hp} {v : V} {r : PyData} (h : Dt F H v r) (hr : isRow r = true) : ∃ (a : Addr) (v0 v1 v2 v3 : V) (d0 d1 d2 d3 : PyData), v = .ref a ∧ H a = some (.tup [v0, v1, v2, v3]) ∧ r = .tuple [d0, d1, d2, d3] ∧ Dt F H v0 d0 ∧ Dt F H v1 d1 ∧ Dt F H v2 d2 ∧ Dt F H v3 d3 := by
  obtain ⟨x, k1, k2, ps, rfl, _⟩ := isRow_ex hr
  obtain ⟨b, ys, rfl, fb, hb, rb⟩ := h.tupI
  cases rb with
  | cons r0 r =>
    obtain ⟨y1, y2, y3, rfl, r1, r2, r3⟩ := r.three
    exact ⟨b, _, _, _, _, _, _, _, _, rfl, hb, rfl, r0, r1, r2, r3⟩
abbrev nBf : List Str := ["relation", "var", "one", "_", "two"]
theorem sc_nBf : FnScope nBf ["relation"] (defScope (top 29)) := ⟨rfl, rfl, rfl, by decide +kernel, rfl, by decide +kernel, by decide +kernel⟩
theorem ok_bf {f : Addr} {fd : FuncData} (F : FnP K "both_fillings" (top 29) f fd) (B : Bl K mg) : FnOk P w K mg base CX0 1 f fd ["relation"] spBf := by
  refine F.ok sc_nBf (fun vs H Q E h => ?_) (fun cdv A outer s H vs Q E hr h => ?_)
  · obtain ⟨F, v, rs, rfl, _⟩ := h
    rfl
  · obtain ⟨Fa, v, rs, rfl, hF, hd, ok, lr, q⟩ := h
    have sc := sc_nBf
    refine ⟨_, PSs.nox (pss_one (ps_ret (pe_tup (pa_cons (pe_callTy call_tuple_of (by rfl) B.tuple (by decide +kernel) (pa_cons (pe_lc (own := [("var", 1), ("one", 2), ("_", 3)]) (tt := tYes) (by rfl) sc.nd (pi_tup (pv 0)) (blkOk_by (own := [("var", 1), ("one", 2), ("_", 3)]) (N := nBf) (sc := (defScope (top 29))) (by decide +kernel)) (fun _ _ _ _ _ => (pgT (K := K) (n := 4) rfl rfl (pgs_cons (pg_name (i := 1) sc.nd rfl (Or.inl rfl)) (pgs_cons (pg_name (i := 2) sc.nd rfl (Or.inl rfl)) (pgs_cons (pg_name (i := 3) sc.nd rfl (Or.inl rfl)) (pgs_cons (pg_name (i := 3) sc.nd rfl (Or.inl rfl)) pgs_nil)))))) (fun _ _ _ _ _ => pts_nil) (fun _ _ _ _ _ => (pe_tup (pa_cons (pv 1) (pa_cons (pv 2) pa_nil))))) pa_nil)) (pa_cons (pe_callTy call_tuple_of (by rfl) B.tuple (by decide +kernel) (pa_cons (pe_lc (own := [("var", 1), ("_", 3), ("two", 4)]) (tt := tYes) (by rfl) sc.nd (pi_tup (pv 0)) (blkOk_by (own := [("var", 1), ("_", 3), ("two", 4)]) (N := nBf) (sc := (defScope (top 29))) (by decide +kernel)) (fun _ _ _ _ _ => (pgT (K := K) (n := 4) rfl rfl (pgs_cons (pg_name (i := 1) sc.nd rfl (Or.inl rfl)) (pgs_cons (pg_name (i := 3) sc.nd rfl (Or.inl rfl)) (pgs_cons (pg_name (i := 4) sc.nd rfl (Or.inl rfl)) (pgs_cons (pg_name (i := 3) sc.nd rfl (Or.inl rfl)) pgs_nil)))))) (fun _ _ _ _ _ => pts_nil) (fun _ _ _ _ _ => (pe_tup (pa_cons (pv 1) (pa_cons (pv 4) pa_nil))))) pa_nil)) pa_nil))))), ?_⟩
    have big : ∀ k : Nat, k ≤ 1000 → k ≤ sizeLine := fun k h => Nat.le_of_lt (small1000 h)
    obtain ⟨a, xs, rfl, fa, ha, ra⟩ := hd.tupI
    have ll := ra.length
    have sH := Same.refl H
    refine ⟨_, rfl, a, rfl, ⟨_, SqT.of ha⟩, fun D nD => lc_tup (K := K) (a := a) (xs := xs) (fun i H2 => Same H H2 ∧ ∃ vs, H2 D = some (.lst vs) ∧ DtA (fun c => Fa c ∧ c ≠ D) H2 vs ((rs.take i).map cA)) ⟨Same.new nD, [], upd_same, .nil⟩ (fun i H2 _ hP => SqT.of (hP.1 a _ ha)) ?_ ?_⟩
    · rintro i e H2 hi ⟨sm, vs, hD, dt⟩
      obtain ⟨de, hde, dte⟩ := ra.get hi
      have il := (List.getElem?_eq_some_iff.mp hde).1
      have rw1 := List.all_eq_true.mp ok de (List.mem_of_getElem? hde)
      obtain ⟨b, v0, v1, v2, v3, d0, d1, d2, d3, rfl, hb, rfl, r0, r1, r2, r3⟩ := row_at dte rw1
      have s2 := sH.trans sm
      have lv := dt.length
      rw [List.length_map, List.length_take] at lv
      have nD0 : H D = none := sH.free nD
      refine ⟨b, _, rfl, SqT.of (s2 _ _ hb), rfl, _, _, rfl, _, _, rfl, _, _, rfl, _, _, rfl, rfl, rfl, ?_⟩
      refine iteT (B := Same H H2 ∧ ∃ vs, H2 D = some (.lst vs) ∧ DtA (fun c => Fa c ∧ c ≠ D) H2 vs ((rs.take (i + 1)).map cA)) ?_
      refine ⟨_, rfl, _, rfl, big _ (by show (2 : Nat) ≤ 1000; decide), fun p np => ?_⟩
      have npD : D ≠ p := ne_of_none hD np
      refine ⟨vs, by rw [upd_ne npD]; exact hD, Nat.lt_of_le_of_lt (by omega : _ ≤ 4000000) (by decide), fun b' o e2 => ?_, vs ++ [.ref p], upd_same, ?_⟩
      · rw [upd_ne (ne_of_none e2 nD), upd_ne (ne_of_none (sm b' o e2) np)]
        exact sm b' o e2
      · rw [take_snoc hde, List.map_append]
        have old : DtA (fun c => Fa c ∧ c ≠ D) (upd (upd H2 p (.tup [v0, v1])) D (.lst (vs ++ [.ref p]))) vs ((rs.take i).map cA) := dt.move fun c o f e => ⟨f, by rw [upd_ne f.2, upd_ne (ne_of_none e np)]; exact e⟩
        have mv : ∀ {u : V} {z : PyData}, Dt Fa H u z → Dt (fun c => Fa c ∧ c ≠ D) (upd (upd H2 p (.tup [v0, v1])) D (.lst (vs ++ [.ref p]))) u z := fun t => t.move fun c o f e => ⟨⟨f, ne_of_none e nD0⟩, by
          have e3 := s2 _ _ e
          rw [upd_ne (ne_of_none e nD0), upd_ne (ne_of_none e3 np)]; exact e3⟩
        exact old.append (.cons (.tup ⟨hF p (s2.free np), npD.symm⟩ (by rw [upd_ne npD.symm]; exact upd_same) (.cons (mv r0) (.cons (mv r1) .nil))) .nil)
    rintro HA ⟨sHA, vsHA, hDHA, dtHA⟩
    rw [ll, List.take_length] at dtHA
    refine ⟨D, vsHA, rfl, .inl ⟨SqL.of hDHA, fun pHA npHA => ?_⟩⟩
    have tA : Dt Fa (upd HA pHA (.tup vsHA)) (.ref pHA) (.tuple (rs.map cA)) := .tup (hF pHA (sHA.free npHA)) upd_same ((dtHA.move fun c o f e => ⟨f.1, e⟩).keep (Same.new npHA))
    have sB := sHA.trans (@Same.new pHA _ (.tup vsHA) npHA)
    generalize upd HA pHA (.tup vsHA) = HB at tA sB ⊢
    refine ⟨_, rfl, a, rfl, ⟨_, SqT.of (sB _ _ ha)⟩, fun D nD => lc_tup (K := K) (a := a) (xs := xs) (fun i H2 => Same HB H2 ∧ ∃ vs, H2 D = some (.lst vs) ∧ DtA (fun c => Fa c ∧ c ≠ D) H2 vs ((rs.take i).map cB)) ⟨Same.new nD, [], upd_same, .nil⟩ (fun i H2 _ hP => SqT.of (hP.1 a _ (sB _ _ ha))) ?_ ?_⟩
    · rintro i e H2 hi ⟨sm, vs, hD, dt⟩
      obtain ⟨de, hde, dte⟩ := ra.get hi
      have il := (List.getElem?_eq_some_iff.mp hde).1
      have rw1 := List.all_eq_true.mp ok de (List.mem_of_getElem? hde)
      obtain ⟨b, v0, v1, v2, v3, d0, d1, d2, d3, rfl, hb, rfl, r0, r1, r2, r3⟩ := row_at dte rw1
      have s2 := sB.trans sm
      have lv := dt.length
      rw [List.length_map, List.length_take] at lv
      have nD0 : H D = none := sB.free nD
      refine ⟨b, _, rfl, SqT.of (s2 _ _ hb), rfl, _, _, rfl, _, _, rfl, _, _, rfl, _, _, rfl, rfl, rfl, ?_⟩
      refine iteT (B := Same HB H2 ∧ ∃ vs, H2 D = some (.lst vs) ∧ DtA (fun c => Fa c ∧ c ≠ D) H2 vs ((rs.take (i + 1)).map cB)) ?_
      refine ⟨_, rfl, _, rfl, big _ (by show (2 : Nat) ≤ 1000; decide), fun p np => ?_⟩
      have npD : D ≠ p := ne_of_none hD np
      refine ⟨vs, by rw [upd_ne npD]; exact hD, Nat.lt_of_le_of_lt (by omega : _ ≤ 4000000) (by decide), fun b' o e2 => ?_, vs ++ [.ref p], upd_same, ?_⟩
      · rw [upd_ne (ne_of_none e2 nD), upd_ne (ne_of_none (sm b' o e2) np)]
        exact sm b' o e2
      · rw [take_snoc hde, List.map_append]
        have old : DtA (fun c => Fa c ∧ c ≠ D) (upd (upd H2 p (.tup [v0, v2])) D (.lst (vs ++ [.ref p]))) vs ((rs.take i).map cB) := dt.move fun c o f e => ⟨f, by rw [upd_ne f.2, upd_ne (ne_of_none e np)]; exact e⟩
        have mv : ∀ {u : V} {z : PyData}, Dt Fa H u z → Dt (fun c => Fa c ∧ c ≠ D) (upd (upd H2 p (.tup [v0, v2])) D (.lst (vs ++ [.ref p]))) u z := fun t => t.move fun c o f e => ⟨⟨f, ne_of_none e nD0⟩, by
          have e3 := s2 _ _ e
          rw [upd_ne (ne_of_none e nD0), upd_ne (ne_of_none e3 np)]; exact e3⟩
        exact old.append (.cons (.tup ⟨hF p (s2.free np), npD.symm⟩ (by rw [upd_ne npD.symm]; exact upd_same) (.cons (mv r0) (.cons (mv r2) .nil))) .nil)
    rintro HC ⟨sHC, vsHC, hDHC, dtHC⟩
    rw [ll, List.take_length] at dtHC
    refine ⟨D, vsHC, rfl, .inl ⟨SqL.of hDHC, fun pHC npHC => ?_⟩⟩
    have tB : Dt Fa (upd HC pHC (.tup vsHC)) (.ref pHC) (.tuple (rs.map cB)) := .tup (hF pHC (sB.free (sHC.free npHC))) upd_same ((dtHC.move fun c o f e => ⟨f.1, e⟩).keep (Same.new npHC))
    have sD := sHC.trans (@Same.new pHC _ (.tup vsHC) npHC)
    refine ⟨big _ (by show (2 : Nat) ≤ 1000; decide), fun p np => ?_⟩
    have sn := @Same.new p _ (.tup [V.ref pHA, .ref pHC]) np
    exact q _ _ (sB.trans (sD.trans sn)) (.tup (hF p (sB.free (sD.free np))) upd_same (.cons ((tA.keep sD).keep sn) (.cons (tB.keep sn) .nil)))
def spFi : Sp := fun vs H Q _ => ∃ (F : Addr → Prop) (v : V) (rs : List PyData), vs = [v] ∧ (∀ p, H p = none → F p) ∧ Dt F H v (.tuple rs) ∧ sz (.tuple rs) ≤ 4000000 ∧ IB (bg + 1000) (.tuple rs) ∧ isRel (.tuple rs) = true ∧ ∀ (v' : V) (H' : Hp), Same H H' → Dt F H' v' (filD rs) → Q v' H'
abbrev nFi : List Str := ["relation"]
theorem sc_nFi : FnScope nFi ["relation"] (defScope (top 32)) := ⟨rfl, rfl, rfl, by decide +kernel, rfl, by decide +kernel, by decide +kernel⟩
theorem ok_fi {f : Addr} {fd : FuncData} (F : FnP K "fillings" (top 32) f fd) (hC : Has P w K mg base "check_relation" ["relation"] 10 spCr0) (hBf : Has P w K mg base "both_fillings" ["relation"] 1 spBf) : FnOk P w K mg base CX0 11 f fd ["relation"] spFi := by
  obtain ⟨fC, fdC, kC, gC, bC, GC⟩ := hC
  obtain ⟨fBf, fdBf, kBf, gBf, bBf, GBf⟩ := hBf
  refine F.ok sc_nFi (fun vs H Q E h => ?_) (fun cdv A outer s H vs Q E hr h => ?_)
  · obtain ⟨F, v, rs, rfl, _⟩ := h
    rfl
  · obtain ⟨Fa, v, rs, rfl, hF, hd, hsz, hib, rel, q⟩ := h
    have sc := sc_nFi
    have hrC : Room 10 _ := hr
    have hrBf : Room 1 _ := hr.mono (by omega)
    refine ⟨_, PSs.nox (pss_cons (ps_expr (pe_call GC hrC rfl gC kC bC .nil pass0 (pa_cons (pv 0) pa_nil))) (pss_one (ps_ret (pe_call GBf hrBf rfl gBf kBf bBf .nil pass0 (pa_cons (pv 0) pa_nil))))), ?_⟩
    have z := sz_tup rs
    have lz := szA_len rs
    obtain ⟨ok, _⟩ := Bool.and_eq_true_iff.mp (show (rs.all isRow && nmAsc rs) = true from rel)
    refine ⟨_, rfl, Fa, v, _, rfl, hd, hsz, hib, rel, fun H1 s1 => ?_⟩
    exact ⟨_, rfl, Fa, v, rs, rfl, fun p np => hF p (s1.free np), hd.keep s1, ok, by omega, fun v' H2 s2 t2 => q v' H2 (s1.trans s2) t2⟩
def spTo : Sp := fun vs H Q _ => ∃ (F : Addr → Prop) (v : V) (ps : List PyData), vs = [v] ∧ (∀ p, H p = none → F p) ∧ Dt F H v (.tuple ps) ∧ ps.length ≤ 4000000 ∧ (∀ j, j < ps.length → ∃ x y, ps[j]? = some (.tuple [x, y]) ∧ x.plain = true ∧ x.depth ≤ 100) ∧ ∀ H', Same H H' → Q (.bl (sgl1 ps)) H'
abbrev nTo : List Str := ["pairs", "one", "two"]
theorem sc_nTo : FnScope nTo ["pairs"] (defScope (top 38)) := ⟨rfl, rfl, rfl, by decide +kernel, rfl, by decide +kernel, by decide +kernel⟩
theorem ok_to {f : Addr} {fd : FuncData} (F : FnP K "_tells_each_once" (top 38) f fd) (B : Bl K mg) : FnOk P w K mg base CX0 1 f fd ["pairs"] spTo := by
  refine F.ok sc_nTo (fun vs H Q E h => ?_) (fun cdv A outer s H vs Q E hr h => ?_)
  · obtain ⟨F, v, ps, rfl, _⟩ := h
    rfl
  · obtain ⟨Fa, v, ps, rfl, hF, hd, lp, hp, q⟩ := h
    have sc := sc_nTo
    refine ⟨_, PSs.nox (pss_one (ps_ret (pe_callB (cr_all rfl) (by rfl) B.all (by decide +kernel) (pa_cons (pe_lc (own := [("one", 1), ("two", 2)]) (tt := tYes) (by rfl) sc.nd (RZ.pi_zipA (by rfl) B.zip (pa_cons (pv 0) (pa_cons (pe_slice sl_tupA (pv 0) (po_some pe_int) po_none) pa_nil))) (blkOk_by (own := [("one", 1), ("two", 2)]) (N := nTo) (sc := (defScope (top 38))) (by decide +kernel)) (fun _ _ _ _ _ => (pgT (K := K) (n := 2) rfl rfl (pgs_cons (pg_name (i := 1) sc.nd rfl (Or.inl rfl)) (pgs_cons (pg_name (i := 2) sc.nd rfl (Or.inl rfl)) pgs_nil)))) (fun _ _ _ _ _ => pts_nil) (fun _ _ _ _ _ => (pe_cmpR (op_neVV B.sys hr) (pe_ix (ixT (K := K) rfl) (pv 1) pe_int (fun _ _ => rfl)) (pe_ix (ixT (K := K) rfl) (pv 2) pe_int (fun _ _ => rfl)) (nomark _)))) pa_nil)))), ?_⟩
    obtain ⟨a, xs, rfl, fa, ha, ra⟩ := id hd.tupI
    have ll := ra.length
    refine ⟨_, rfl, ?_⟩
    refine slC (K := K) 1 hF rfl hd fun v2 H1 s1 d1 => ?_
    obtain ⟨b, ys, rfl, fb, hb, rb⟩ := d1.tupI
    have lb := rb.length
    rw [List.length_drop] at lb
    have item : ∀ {H4 : Hp} {j : Nat} {u : V}, Same H H4 → xs[j]? = some u → ∃ c x y w, u = .ref c ∧ ps[j]? = some (.tuple [x, y]) ∧ x.plain = true ∧ x.depth ≤ 100 ∧ ∃ u0, H4 c = some (.tup [u0, w]) ∧ Dt Fa H4 u0 x := fun {H4 j u} s hu => by
      have jl := (List.getElem?_eq_some_iff.mp hu).1
      obtain ⟨x, y, hx, pl, dp⟩ := hp j (by omega)
      obtain ⟨u', hu', tu⟩ := ra.at_ hx
      have e : u = u' := Option.some.inj (hu.symm.trans hu')
      subst e
      obtain ⟨c, ws, rfl, fc, hc, rc⟩ := tu.tupI
      obtain ⟨w0, w1, rfl, t1, t2⟩ := rc.two
      exact ⟨c, x, y, w1, rfl, hx, pl, dp, w0, s _ _ hc, t1.keep s⟩
    refine ⟨a, b, xs, ys, rfl, .inr ⟨SqT.of (s1 _ _ ha), SqT.of hb, ?_⟩⟩
    refine fun D nD => lc_zipT (K := K) (a := a) (b := b) (xs := xs) (ys := ys) (fun i H2 => Same H1 H2 ∧ H2 D = some (.lst (((List.range i).map fun j => !PyData.eqv (fstD (ps.getD j .none)) (fstD (ps.getD (j + 1) .none))).map V.bl))) ⟨Same.new nD, upd_same⟩ (fun i H2 hP => ⟨SqT.of (hP.1 _ _ (s1 _ _ ha)), SqT.of (hP.1 _ _ hb)⟩) ?_ ?_
    · rintro i x y T H2 hx hy ⟨sm, hD⟩ nT
      have sT := @Same.new T _ (.tup [x, y]) nT
      have s2 := s1.trans (sm.trans sT)
      have yl := (List.getElem?_eq_some_iff.mp hy).1
      obtain ⟨c1, x1, y1, w1, rfl, hp1, pl1, dp1, u1, hc1, tu1⟩ := item s2 hx
      obtain ⟨dy, hdy, ty⟩ := rb.get hy
      rw [List.getElem?_drop, Nat.add_comm 1 i] at hdy
      obtain ⟨x2, y2, hp2, pl2, dp2⟩ := hp (i + 1) (List.getElem?_eq_some_iff.mp hdy).1
      have ed : dy = .tuple [x2, y2] := Option.some.inj (hdy.symm.trans hp2)
      subst ed
      obtain ⟨c2, ws, rfl, fc, hc2, rc⟩ := (ty.keep (sm.trans sT)).tupI
      obtain ⟨u2, w2, rfl, tu2, _⟩ := rc.two
      refine ⟨T, _, rfl, SqT.of upd_same, rfl, _, _, rfl, _, _, rfl, rfl, rfl, ?_⟩
      refine iteT (B := Same H1 (upd H2 T (.tup [.ref c1, .ref c2])) ∧ (upd H2 T (.tup [.ref c1, .ref c2])) D = some (.lst (((List.range (i + 1)).map fun j => !PyData.eqv (fstD (ps.getD j .none)) (fstD (ps.getD (j + 1) .none))).map V.bl))) ?_
      refine ⟨_, rfl, c1, _, 0, _, rfl, rfl, SqT.of hc1, rfl, _, rfl, c2, _, 0, _, rfl, rfl, SqT.of hc2, rfl, ?_⟩
      refine ⟨Fa, x1, x2, tu1, tu2, pl1, pl2, by omega, ?_⟩
      refine ⟨_, sT _ _ hD, Nat.lt_of_le_of_lt (by rw [List.length_map, List.length_map, List.length_range]; omega : _ ≤ 4000000) (by decide), fun b' o e2 => ?_, ?_⟩
      · rw [upd_ne (ne_of_none e2 nD)]
        exact sT _ _ (sm b' o e2)
      · rw [upd_same, List.range_succ, List.map_append, List.map_append]
        show _ = some (HO.lst (_ ++ [V.bl (!PyData.eqv (fstD (ps.getD i .none)) (fstD (ps.getD (i + 1) .none)))]))
        rw [getD_of hp1, getD_of hp2]
        rfl
    · rintro i H2 he hix hiy ⟨sm, hD⟩
      refine ⟨D, _, rfl, SqL.of hD, ?_⟩
      have ei : i = ps.length - 1 := by omega
      have e : ((List.range i).map fun j => !PyData.eqv (fstD (ps.getD j .none)) (fstD (ps.getD (j + 1) .none))).all id = sgl1 ps := by
        rw [sgl1, List.all_map, ei]
        rfl
      rw [e]
      exact q H2 (s1.trans sm)
end
end N3
namespace N3
open PySem PySem.Spec PyProof.Rows L2 KB
section
variable {P : Program} {w : World} {K : PySem.W.Frag} {mg : Str → Option Value} {base : Heap} {aS : Addr}
def spItu : Sp := fun vs H Q _ => ∃ (F : Addr → Prop) (v : V) (d : PyData), vs = [v] ∧ (∀ p, H p = none → F p) ∧ Dt F H v d ∧ sz d ≤ 4000000 ∧ IB (bg + 1000) d ∧ ∀ H', Same H H' → Q (.bl (isRel d && isSgl d)) H'
abbrev nItu : List Str := ["value", "_", "pairs"]
theorem sc_nItu : FnScope nItu ["value"] (defScope (top 34)) := ⟨rfl, rfl, rfl, by decide +kernel, rfl, by decide +kernel, by decide +kernel⟩
theorem ok_itu {f : Addr} {fd : FuncData} (F : FnP K "is_turn" (top 34) f fd) (B : Bl K mg) (hR : Has P w K mg base "is_relation" ["value"] 11 spIre) (hO : Has P w K mg base "_tells_each_once" ["pairs"] 1 spTo) : FnOk P w K mg base CX0 12 f fd ["value"] spItu := by
  obtain ⟨fR, fdR, kR, gR, bR, GR⟩ := hR
  obtain ⟨fO, fdO, kO, gO, bO, GO⟩ := hO
  refine F.ok sc_nItu (fun vs H Q E h => ?_) (fun cdv A outer s H vs Q E hr h => ?_)
  · obtain ⟨F, v, d, rfl, _⟩ := h
    rfl
  · obtain ⟨Fa, v, d, rfl, hF, hd, hsz, hib, q⟩ := h
    have sc := sc_nItu
    have hrR : Room 11 _ := hr
    have hrO : Room 1 _ := hr.mono (by omega)
    refine ⟨_, PSs.nox (pss_one (ps_ret (pe_and (pe_call GR hrR rfl gR kR bR .nil pass0 (pa_cons (pv 0) pa_nil)) (pe_one (pe_callB (cr_all rfl) (by rfl) B.all (by decide +kernel) (pa_cons (pe_lc (own := [("_", 1), ("pairs", 2)]) (tt := tYes) (by rfl) sc.nd (pi_tup (pv 0)) (blkOk_by (own := [("_", 1), ("pairs", 2)]) (N := nItu) (sc := (defScope (top 34))) (by decide +kernel)) (fun _ _ _ _ _ => (pgT (K := K) (n := 4) rfl rfl (pgs_cons (pg_name (i := 1) sc.nd rfl (Or.inl rfl)) (pgs_cons (pg_name (i := 1) sc.nd rfl (Or.inl rfl)) (pgs_cons (pg_name (i := 1) sc.nd rfl (Or.inl rfl)) (pgs_cons (pg_name (i := 2) sc.nd rfl (Or.inl rfl)) pgs_nil)))))) (fun _ _ _ _ _ => pts_nil) (fun _ _ _ _ _ => (pe_call GO hrO rfl gO kO bO .nil pass0 (pa_cons (pv 2) pa_nil)))) pa_nil)))))), ?_⟩
    refine ⟨_, rfl, Fa, v, d, rfl, hd, hsz, hib, fun H1 s1 => ?_⟩
    cases rel : isRel d with
    | false =>
      refine ⟨_, rfl, ifF rfl ?_⟩
      have := q H1 s1
      rw [rel] at this
      exact this
    | true =>
    refine ⟨_, rfl, ifT rfl ?_⟩
    rw [rel, Bool.true_and] at q
    obtain ⟨rs, rfl, ok, _⟩ := isRel_ex rel
    have sz0 := sz_tup rs
    have lz := szA_len rs
    have hd1 := hd.keep s1
    obtain ⟨a, xs, rfl, fa, ha, ra⟩ := hd1.tupI
    have ll := ra.length
    refine ⟨_, rfl, a, rfl, ⟨_, SqT.of ha⟩, fun D nD => lc_tup (K := K) (a := a) (xs := xs) (fun i H2 => Same H1 H2 ∧ H2 D = some (.lst (((rs.take i).map fun r => sgl1 (prsOf r)).map V.bl))) ⟨Same.new nD, upd_same⟩ (fun i H2 _ hP => SqT.of (hP.1 a _ ha)) ?_ ?_⟩
    · rintro i e H2 hi ⟨sm, hD⟩
      obtain ⟨de, hde, dte⟩ := ra.get hi
      have me := List.mem_of_getElem? hde
      have mz := szA_mem me
      have dte' := dte.keep sm
      obtain ⟨x, k1, k2, ps, rfl, gx, c1, c2, pr⟩ := isRow_ex (List.all_eq_true.mp ok de me)
      obtain ⟨b, ys, rfl, fb, hb, rb⟩ := dte'.tupI
      obtain ⟨v0, v1, v2, v3, rfl, r3⟩ : ∃ v0 v1 v2 v3, ys = [v0, v1, v2, v3] ∧ Dt Fa H2 v3 (.tuple ps) := by
        cases rb with
        | cons r0 r =>
          obtain ⟨y1, y2, y3, rfl, r1, r2, r3⟩ := r.three
          exact ⟨_, _, _, _, rfl, r3⟩
      have szr := sz_tup [.str x, k1, k2, .tuple ps]
      have mp := szA_mem (show PyData.tuple ps ∈ [.str x, k1, k2, .tuple ps] by simp)
      have szp := sz_tup ps
      have lzp := szA_len ps
      have ibp := ib_tup.mp (ib_tup.mp (ib_tup.mp hib _ me) (.tuple ps) (by simp))
      refine ⟨b, _, rfl, SqT.of hb, rfl, _, _, rfl, _, _, rfl, _, _, rfl, _, _, rfl, rfl, rfl, ?_⟩
      refine iteT (B := Same H1 H2 ∧ H2 D = some (.lst (((rs.take (i + 1)).map fun r => sgl1 (prsOf r)).map V.bl))) ?_
      refine ⟨_, rfl, Fa, v3, ps, rfl, fun p np => hF p (s1.free (sm.free np)), r3, by omega, fun j hj => row_fst (x := x) (j := j) pr c1 (by omega) ibp hj, fun H3 s3 => ?_⟩
      refine ⟨_, s3 _ _ hD, Nat.lt_of_le_of_lt (by rw [List.length_map, List.length_map, List.length_take]; omega : _ ≤ 10000000) (by decide), fun b' o e2 => ?_, ?_⟩
      · rw [upd_ne (ne_of_none e2 nD)]
        exact s3 b' o (sm b' o e2)
      · rw [upd_same, take_snoc hde, List.map_append, List.map_append]
        rfl
    · rintro H2 ⟨sm, hD⟩
      rw [ll, List.take_length] at hD
      refine ⟨D, _, rfl, SqL.of hD, ?_⟩
      have e : (rs.map fun r => sgl1 (prsOf r)).all id = isSgl (.tuple rs) := by
        rw [List.all_map]
        rfl
      rw [e]
      exact q H2 (s1.trans sm)
def smw : List Str := ["var", "unit", "pair", "either"]
def wdB : PyData → Bool
  | .tuple (.str w :: _) => smw.contains w
  | _ => false
theorem wdB_d (k : Kd) : wdB k.d = smw.contains k.word := by cases k <;> rfl
theorem sm_all : ∀ (k : Kd) (l : Int), ((k.lvs l).map fun p => p.1.d).all wdB = trB k true
  | .num, l => by rfl
  | .unit, l => by rfl
  | .var x, l => by rfl
  | .lst a, l => by rw [Kd.lvs, List.map_cons, List.all_cons]; rfl
  | .pair a b, l => by rw [Kd.lvs, List.map_cons, List.all_cons, List.map_append, List.all_append, sm_all a, sm_all b]; rfl
  | .eith a b, l => by rw [Kd.lvs, List.map_cons, List.all_cons, List.map_append, List.all_append, sm_all a, sm_all b]; rfl
  | .fn a b, l => by rw [Kd.lvs, List.map_cons, List.all_cons]; rfl
theorem tr_mono : ∀ (k : Kd), trB k true = true → trB k false = true
  | .num, h => by cases h
  | .unit, _ => rfl
  | .var _, _ => rfl
  | .lst a, h => by cases h
  | .pair a b, h => by
    obtain ⟨h1, h2⟩ := Bool.and_eq_true_iff.mp (show (trB a true && trB b true) = true from h)
    show (trB a false && trB b false) = true
    rw [tr_mono a h1, tr_mono b h2]; rfl
  | .eith a b, h => by
    obtain ⟨h1, h2⟩ := Bool.and_eq_true_iff.mp (show (trB a true && trB b true) = true from h)
    show (trB a false && trB b false) = true
    rw [tr_mono a h1, tr_mono b h2]; rfl
  | .fn a b, h => by cases h
def fnD : PyData → Option Bool
  | .tuple [.str w, a, _] => if w = "fun" then some (((lv a 1).map Prod.fst).all wdB) else none
  | _ => none
theorem lv_fst (k : Kd) : (lv k.d 1).map Prod.fst = (k.lvs 1).map fun p => p.1.d := by
  rw [lv_d, List.map_map]
  rfl
theorem fnD_fn (a b : Kd) : fnD (Kd.fn a b).d = some (trB a true) := by
  show some (((lv a.d 1).map Prod.fst).all wdB) = _
  rw [lv_fst, sm_all]
theorem fnD_no {k : Kd} (h : k.word ≠ "fun") : fnD k.d = none := by
  cases k <;> first | rfl | exact absurd rfl h
theorem tr_all : ∀ (k : Kd) (l : Int), (((k.lvs l).map fun p => p.1.d).filterMap fnD).all id = trB k false
  | .num, l => by rfl
  | .unit, l => by rfl
  | .var x, l => by rfl
  | .lst a, l => by
    rw [Kd.lvs, List.map_cons, List.filterMap_cons, fnD_no (k := .lst a) (by show ("list" : Str) ≠ "fun"; decide)]
    show _ = (true && trB a false)
    rw [Bool.true_and]
    exact tr_all a _
  | .pair a b, l => by
    rw [Kd.lvs, List.map_cons, List.filterMap_cons, fnD_no (k := .pair a b) (by show ("pair" : Str) ≠ "fun"; decide)]
    show ((((a.lvs (l + 1) ++ b.lvs (l + 1)).map fun p => p.1.d).filterMap fnD).all id) = _
    rw [List.map_append, List.filterMap_append, List.all_append, tr_all a, tr_all b]
    rfl
  | .eith a b, l => by
    rw [Kd.lvs, List.map_cons, List.filterMap_cons, fnD_no (k := .eith a b) (by show ("either" : Str) ≠ "fun"; decide)]
    show ((((a.lvs (l + 1) ++ b.lvs (l + 1)).map fun p => p.1.d).filterMap fnD).all id) = _
    rw [List.map_append, List.filterMap_append, List.all_append, tr_all a, tr_all b]
    rfl
  | .fn a b, l => by
    rw [Kd.lvs, List.map_cons, List.filterMap_cons, fnD_fn]
    show (trB a true && ((((a.lvs (l + 1) ++ b.lvs (l + 1)).map fun p => p.1.d).filterMap fnD).all id)) = (true && (trB a true && trB b false))
    rw [List.map_append, List.filterMap_append, List.all_append, tr_all a, tr_all b, Bool.true_and]
    cases h : trB a true with
    | false => rfl
    | true => rw [tr_mono a h]; rfl
theorem lvs_in : ∀ (k : Kd) (l : Int), k.okv = true → ∀ p ∈ k.lvs l, p.1.okv = true ∧ p.1.dep ≤ k.dep ∧ sz p.1.d ≤ sz k.d := by
  have two : ∀ (k a b : Kd) (wd : Str) (l : Int), k.d = .tuple [.str wd, a.d, b.d] → k.dep = max a.dep b.dep + 1 → k.okv = true → k.okv = (a.okv && b.okv) → (∀ l, a.okv = true → ∀ p ∈ a.lvs l, p.1.okv = true ∧ p.1.dep ≤ a.dep ∧ sz p.1.d ≤ sz a.d) → (∀ l, b.okv = true → ∀ p ∈ b.lvs l, p.1.okv = true ∧ p.1.dep ≤ b.dep ∧ sz p.1.d ≤ sz b.d) →
      ∀ p ∈ (k, l) :: (a.lvs (l + 1) ++ b.lvs (l + 1)), p.1.okv = true ∧ p.1.dep ≤ k.dep ∧ sz p.1.d ≤ sz k.d := by
    intro k a b wd l hk hdp hok hand ha hb p hp
    rw [hand] at hok
    obtain ⟨o1, o2⟩ := Bool.and_eq_true_iff.mp hok
    have z := sz_tup [.str wd, a.d, b.d]
    rw [← hk] at z
    have z1 := szA_mem (show a.d ∈ [PyData.str wd, a.d, b.d] by simp)
    have z2 := szA_mem (show b.d ∈ [PyData.str wd, a.d, b.d] by simp)
    (rcases List.mem_cons.mp hp with rfl | hp)
    · exact ⟨by rw [hand]; exact hok, Nat.le_refl _, Nat.le_refl _⟩
    · (rcases List.mem_append.mp hp with hp | hp)
      · obtain ⟨q1, q2, q3⟩ := ha _ o1 p hp
        exact ⟨q1, by omega, by omega⟩
      · obtain ⟨q1, q2, q3⟩ := hb _ o2 p hp
        exact ⟨q1, by omega, by omega⟩
  have one : ∀ (k : Kd) (l : Int), k.okv = true → ∀ p ∈ [(k, l)], p.1.okv = true ∧ p.1.dep ≤ k.dep ∧ sz p.1.d ≤ sz k.d := fun k l h p hp => by
    rw [List.mem_singleton.mp hp]
    exact ⟨h, Nat.le_refl _, Nat.le_refl _⟩
  intro k
  induction k with
  | num => exact fun l h => one _ l h
  | unit => exact fun l h => one _ l h
  | var x => exact fun l h => one _ l h
  | lst a ih =>
    intro l h p hp
    rw [Kd.lvs] at hp
    have z := sz_tup [.str "list", a.d]
    have z1 := szA_mem (show a.d ∈ [PyData.str "list", a.d] by simp)
    have e : (Kd.lst a).d = .tuple [.str "list", a.d] := rfl
    have ed : (Kd.lst a).dep = a.dep + 1 := rfl
    (rcases List.mem_cons.mp hp with rfl | hp)
    · exact ⟨h, Nat.le_refl _, Nat.le_refl _⟩
    · obtain ⟨q1, q2, q3⟩ := ih (l + 1) h p hp
      rw [e]
      exact ⟨q1, by omega, by omega⟩
  | pair a b iha ihb => exact fun l h => two (.pair a b) a b "pair" l rfl rfl h rfl iha ihb
  | eith a b iha ihb => exact fun l h => two (.eith a b) a b "either" l rfl rfl h rfl iha ihb
  | fn a b iha ihb => exact fun l h => two (.fn a b) a b "fun" l rfl rfl h rfl iha ihb
def spTr (h : Bool) : Sp := fun vs H Q _ => ∃ (F : Addr → Prop) (v : V) (k : Kd), vs = [v] ∧ Dt F H v k.d ∧ k.okv = true ∧ k.dep ≤ 100 ∧ sz k.d ≤ 4000000 ∧ ∀ H', Same H H' → Q (.bl (trB k h)) H'
abbrev nSm : List Str := ["kind", "part"]
theorem sc_nSm : FnScope nSm ["kind"] (defScope (top 27)) := ⟨rfl, rfl, rfl, by decide +kernel, rfl, by decide +kernel, by decide +kernel⟩
theorem ok_sm {f : Addr} {fd : FuncData} (F : FnP K "is_small_kind" (top 27) f fd) (B : Bl K mg) (gS : mg "SMALL_WORDS" = some (.ref aS)) (hS : ∀ H, SqT K H aS (smw.map V.str)) (hPk : Has P w K mg base "parts_of_kind" ["kind"] 5 spPk) : FnOk P w K mg base CX0 6 f fd ["kind"] (spTr true) := by
  obtain ⟨fPk, fdPk, kPk, gPk, bPk, GPk⟩ := hPk
  refine F.ok sc_nSm (fun vs H Q E h => ?_) (fun cdv A outer s H vs Q E hr h => ?_)
  · obtain ⟨F, v, k, rfl, _⟩ := h
    rfl
  · obtain ⟨Fa, v, k, rfl, hd, ov, dp, hsz, q⟩ := h
    have sc := sc_nSm
    have hrPk : Room 5 _ := hr
    refine ⟨_, PSs.nox (pss_one (ps_ret (pe_callB (cr_all rfl) (by rfl) B.all (by decide +kernel) (pa_cons (pe_lc (own := [("part", 1)]) (g := gName 1) (tt := tYes) (by rfl) sc.nd (pi_list (pe_call GPk hrPk rfl gPk kPk bPk .nil pass0 (pa_cons (pv 0) pa_nil))) (blkOk_by (own := [("part", 1)]) (N := nSm) (sc := (defScope (top 27))) (by decide +kernel)) (fun _ _ _ _ _ => (pg_name (i := 1) sc.nd rfl (Or.inl rfl))) (fun _ _ _ _ _ => pts_nil) (fun _ _ _ _ _ => (pe_cmpR (inT (K := K) rfl) (pe_ix (ixT (K := K) rfl) (pv 1) pe_int (fun _ _ => rfl)) (pe_glob (v := .ref aS) rfl gS rfl) (by rfl)))) pa_nil)))), ?_⟩
    refine ⟨_, rfl, Fa, v, k, rfl, hd, ov, dp, hsz, fun G gs ks H1 s1 hG dg perm cnt => ?_⟩
    have lg := dg.length
    refine ⟨G, rfl, ⟨_, SqL.of hG⟩, fun D nD => lc_list (K := K) (a := G) (xs := gs) (fun i H2 => Same H1 H2 ∧ H2 D = some (.lst (((ks.take i).map wdB).map V.bl))) ⟨Same.new nD, upd_same⟩ (fun i H2 _ hP => SqL.of (hP.1 G _ hG)) ?_ ?_⟩
    · rintro i e H2 hi ⟨sm, hD⟩
      obtain ⟨de, hde, dte⟩ := dg.get hi
      obtain ⟨⟨k1, l1⟩, _, rfl⟩ := List.mem_map.mp (perm.mem_iff.mp (List.mem_of_getElem? hde))
      have dk : Dt (Ot []) H1 e k1.d := dte
      rw [kd_prt] at dk
      obtain ⟨a, ys, rfl, fa, ha, ra⟩ := dk.tupI
      cases ra with
      | @cons y0 ys' _ _ h0 ra' =>
      have e0 := h0.strI
      subst e0
      refine ⟨rfl, ?_⟩
      refine iteT (B := Same H1 H2 ∧ H2 D = some (.lst (((ks.take (i + 1)).map wdB).map V.bl))) ?_
      refine ⟨_, rfl, a, _, 0, _, rfl, rfl, SqT.of (sm a _ ha), atI_nat (j := 0) rfl, aS, _, rfl, .inr (hS H2), rfl, flat_strs _, ?_⟩
      refine ⟨_, hD, Nat.lt_of_le_of_lt (by rw [List.length_map, List.length_map, List.length_take]; omega : _ ≤ 4000000) (by decide), fun b o e2 => ?_, ?_⟩
      · rw [upd_ne (ne_of_none e2 nD)]
        exact sm b o e2
      · rw [upd_same, take_snoc hde, List.map_append, List.map_append]
        show _ = some (HO.lst (_ ++ [V.bl (wdB k1.d)]))
        rw [wdB_d, inV_str]
        rfl
    · rintro H2 ⟨sm, hD⟩
      rw [lg, List.take_length] at hD
      refine ⟨D, _, rfl, SqL.of hD, ?_⟩
      have e : (ks.map wdB).all id = trB k true := by
        rw [List.all_map]
        show ks.all wdB = _
        rw [all_perm _ perm, sm_all]
      rw [e]
      exact q H2 (s1.trans sm)
abbrev nTk : List Str := ["kind", "part"]
theorem sc_nTk : FnScope nTk ["kind"] (defScope (top 28)) := ⟨rfl, rfl, rfl, by decide +kernel, rfl, by decide +kernel, by decide +kernel⟩
theorem ok_tk {f : Addr} {fd : FuncData} (F : FnP K "is_tried_kind" (top 28) f fd) (B : Bl K mg) (hPk : Has P w K mg base "parts_of_kind" ["kind"] 5 spPk) (hS_ : Has P w K mg base "is_small_kind" ["kind"] 6 (spTr true)) : FnOk P w K mg base CX0 7 f fd ["kind"] (spTr false) := by
  obtain ⟨fPk, fdPk, kPk, gPk, bPk, GPk⟩ := hPk
  obtain ⟨fS_, fdS_, kS_, gS_, bS_, GS_⟩ := hS_
  refine F.ok sc_nTk (fun vs H Q E h => ?_) (fun cdv A outer s H vs Q E hr h => ?_)
  · obtain ⟨F, v, k, rfl, _⟩ := h
    rfl
  · obtain ⟨Fa, v, k, rfl, hd, ov, dp, hsz, q⟩ := h
    have sc := sc_nTk
    have hrPk : Room 5 _ := hr.mono (by omega)
    have hrS_ : Room 6 _ := hr
    have no : ∀ {x y : Str}, x ≠ y → decide (V.str x = V.str y) = false := fun h => decide_eq_false fun z => h (V.str.inj z)
    refine ⟨_, PSs.nox (pss_one (ps_ret (pe_callB (cr_all rfl) (by rfl) B.all (by decide +kernel) (pa_cons (pe_lc (own := [("part", 1)]) (g := gName 1) (by rfl) sc.nd (pi_list (pe_call GPk hrPk rfl gPk kPk bPk .nil pass0 (pa_cons (pv 0) pa_nil))) (blkOk_by (own := [("part", 1)]) (N := nTk) (sc := (defScope (top 28))) (by decide +kernel)) (fun _ _ _ _ _ => (pg_name (i := 1) sc.nd rfl (Or.inl rfl))) (fun _ _ _ _ _ => (pts_one (pt_cmpR op_eq (pe_ix (ixT (K := K) rfl) (pv 1) pe_int (fun _ _ => rfl)) pe_str (nomark _)))) (fun _ _ _ _ _ => (pe_call GS_ hrS_ rfl gS_ kS_ bS_ .nil pass0 (pa_cons (pe_ix (ixT (K := K) rfl) (pv 1) pe_int (fun _ _ => rfl)) pa_nil)))) pa_nil)))), ?_⟩
    refine ⟨_, rfl, Fa, v, k, rfl, hd, ov, dp, hsz, fun G gs ks H1 s1 hG dg perm cnt => ?_⟩
    have lg := dg.length
    refine ⟨G, rfl, ⟨_, SqL.of hG⟩, fun D nD => lc_list (K := K) (a := G) (xs := gs) (fun i H2 => Same H1 H2 ∧ H2 D = some (.lst (((ks.take i).filterMap fnD).map V.bl))) ⟨Same.new nD, upd_same⟩ (fun i H2 _ hP => SqL.of (hP.1 G _ hG)) ?_ ?_⟩
    · rintro i e H2 hi ⟨sm, hD⟩
      obtain ⟨de, hde, dte⟩ := dg.get hi
      have mem := perm.mem_iff.mp (List.mem_of_getElem? hde)
      obtain ⟨⟨k1, l1⟩, hm, rfl⟩ := List.mem_map.mp mem
      obtain ⟨o1, o2, o3⟩ := lvs_in k 1 ov _ hm
      have dk : Dt (Ot []) H1 e k1.d := dte
      have dk2 := dk
      rw [kd_prt] at dk
      obtain ⟨a, ys, rfl, fa, ha, ra⟩ := dk.tupI
      cases ra with
      | @cons y0 ys' _ _ h0 ra' =>
      have e0 := h0.strI
      subst e0
      refine ⟨rfl, ?_⟩
      refine ⟨_, rfl, a, _, 0, _, rfl, rfl, SqT.of (sm a _ ha), atI_nat (j := 0) rfl, rfl, _, rfl, ?_⟩
      by_cases hw : k1.word = "fun"
      · obtain ⟨x, y, rfl⟩ : ∃ x y, k1 = .fn x y := by
          cases k1 with
          | fn x y => exact ⟨x, y, rfl⟩
          | num => exact absurd (show ("num" : Str) = "fun" from hw) (by decide)
          | unit => exact absurd (show ("unit" : Str) = "fun" from hw) (by decide)
          | var _ => exact absurd (show ("var" : Str) = "fun" from hw) (by decide)
          | lst _ => exact absurd (show ("list" : Str) = "fun" from hw) (by decide)
          | pair _ _ => exact absurd (show ("pair" : Str) = "fun" from hw) (by decide)
          | eith _ _ => exact absurd (show ("either" : Str) = "fun" from hw) (by decide)
        obtain ⟨v1, v2, rfl, r1, r2⟩ := ra'.two
        obtain ⟨ox, oy⟩ := Bool.and_eq_true_iff.mp (show (x.okv && y.okv) = true from o1)
        have odp : max x.dep y.dep + 1 ≤ k.dep := o2
        have z := sz_tup [.str "fun", x.d, y.d]
        have z1 := szA_mem (show x.d ∈ [PyData.str "fun", x.d, y.d] by simp)
        have o3' : sz (.tuple [.str "fun", x.d, y.d]) ≤ sz k.d := o3
        refine ifT (decide_eq_true rfl) ⟨_, rfl, a, _, 1, _, rfl, rfl, SqT.of (sm a _ ha), rfl, ?_⟩
        refine ⟨Ot [], v1, x, rfl, r1.keep sm, ox, by omega, by omega, fun H3 s3 => ?_⟩
        have f1 := List.length_filterMap_le fnD (ks.take i)
        rw [List.length_take] at f1
        refine ⟨_, s3 _ _ hD, Nat.lt_of_le_of_lt (by rw [List.length_map]; omega : _ ≤ 4000000) (by decide), fun b o e2 => ?_, ?_⟩
        · rw [upd_ne (ne_of_none e2 nD)]
          exact s3 b o (sm b o e2)
        · rw [upd_same, take_snoc hde, List.filterMap_append, List.map_append]
          show _ = some (HO.lst (_ ++ ([(Kd.fn x y).d].filterMap fnD).map V.bl))
          rw [List.filterMap_cons, fnD_fn]
          rfl
      · refine ifF (no hw) ⟨sm, ?_⟩
        rw [take_snoc hde, List.filterMap_append]
        show _ = some (HO.lst ((_ ++ [k1.d].filterMap fnD).map V.bl))
        rw [List.filterMap_cons, fnD_no hw, List.filterMap_nil, List.append_nil]
        exact hD
    · rintro H2 ⟨sm, hD⟩
      rw [lg, List.take_length] at hD
      refine ⟨D, _, rfl, SqL.of hD, ?_⟩
      have e : (ks.filterMap fnD).all id = trB k false := by
        rw [all_perm _ (perm.filterMap fnD), tr_all]
      rw [e]
      exact q H2 (s1.trans sm)
abbrev nIt5 : List Str := ["kind"]
theorem sc_nIt5 : FnScope nIt5 ["kind"] (defScope (top 33)) := ⟨rfl, rfl, rfl, by decide +kernel, rfl, by decide +kernel, by decide +kernel⟩
theorem ok_it5 {f : Addr} {fd : FuncData} (F : FnP K "is_tried" (top 33) f fd) (hT : Has P w K mg base "is_tried_kind" ["kind"] 7 (spTr false)) : FnOk P w K mg base CX0 8 f fd ["kind"] (spTr false) := by
  obtain ⟨fT, fdT, kT, gT, bT, GT⟩ := hT
  refine F.ok sc_nIt5 (fun vs H Q E h => ?_) (fun cdv A outer s H vs Q E hr h => ?_)
  · obtain ⟨F, v, k, rfl, _⟩ := h
    rfl
  · obtain ⟨Fa, v, k, rfl, hd, ov, dp, hsz, q⟩ := h
    have sc := sc_nIt5
    have hrT : Room 7 _ := hr
    refine ⟨_, PSs.nox (pss_one (ps_ret (pe_call GT hrT rfl gT kT bT .nil pass0 (pa_cons (pv 0) pa_nil)))), ?_⟩
    exact ⟨_, rfl, Fa, v, k, rfl, hd, ov, dp, hsz, q⟩
end
end N3
namespace N3
open PySem PySem.Spec PyProof.Rows L2 KB
section
variable {K : PySem.W.Frag} {mg : Str → Option Value} {base : Heap} {P : Program} {w : World}
theorem rw_sz {r : PyData} (h : Rw r) : sz r ≤ 89000 := by
  obtain ⟨x, a, b, es, rfl, hx, ac, an, bc, bn, ad, bd, he, le⟩ := h
  have z0 := sz_tup [.str x, a.d, b.d, .tuple es]
  have z1 := sz_tup es
  have zk : ∀ k : Kd, k.closed = true → k.dep ≤ 3 → sz k.d ≤ 175 := fun k kc kd => by
    have q1 := sz_kz k (okv_closed k kc)
    have q2 := Kd.kz_dep k
    have q3 : 2 ^ k.dep ≤ 2 ^ 3 := Nat.pow_le_pow_right (by decide) kd
    omega
  have za := zk a ac ad
  have zb := zk b bc bd
  have zx : sz (.str x) ≤ 10 := by
    simp only [abc, List.mem_cons, List.not_mem_nil, or_false] at hx
    rcases hx with rfl | rfl | rfl <;> exact sz_word _ (by decide +kernel)
  have zv : ∀ (k : Kd) (d : PyData), k.dep ≤ 3 → VV 4 k d → sz d ≤ 6860 := fun k d kd v => by
    have q1 := vv_sz (N := 4) (M := 4) (by decide) (by decide) (by decide) v
    have q2 := BZ_mono (M := 4) (by decide) (show k.dep - 1 ≤ 2 by omega)
    have q3 : BZ 4 2 = 6860 := by decide
    omega
  have ze := szA_le (L := 13727) (xs := es) fun e hm => by
    obtain ⟨u, v, rfl, hu, hv⟩ := he e hm
    have q1 := zv a u ad hu
    have q2 := zv b v bd hv
    have q3 := sz_tup [u, v]
    simp only [szA] at q3
    omega
  have zm : (13727 + 2) * es.length ≤ (13727 + 2) * 6 := Nat.mul_le_mul_left _ le
  simp only [szA] at z0
  omega
theorem rw_ib {r : PyData} (h : Rw r) : IB (bg + 40) r := by
  obtain ⟨x, a, b, es, rfl, hx, ac, an, bc, bn, ad, bd, he, le⟩ := h
  refine ib_tup.mpr fun z hz => ?_
  simp only [List.mem_cons, List.not_mem_nil, or_false] at hz
  rcases hz with rfl | rfl | rfl | rfl
  · exact ib_str _
  · exact ib_kd _
  · exact ib_kd _
  · refine ib_tup.mpr fun e hm => ?_
    obtain ⟨u, v, rfl, hu, hv⟩ := he e hm
    refine ib_tup.mpr fun z hz => ?_
    simp only [List.mem_cons, List.not_mem_nil, or_false] at hz
    rcases hz with rfl | rfl
    · exact vv_ib hu
    · exact vv_ib hv
theorem rws_sz {ds : List PyData} (h : ∀ d ∈ ds, Rw d) (l : ds.length ≤ 3) : szA ds ≤ 267006 := by
  have z := szA_le (L := 89000) (xs := ds) fun d hd => rw_sz (h d hd)
  have : (89000 + 2) * ds.length ≤ (89000 + 2) * 3 := Nat.mul_le_mul_left _ l
  omega
def bnd : Nat → Nat
  | 0 => 270000
  | i + 1 => 2 * bnd i + 600
theorem bnd_le : bnd 3 ≤ 2200000 ∧ bnd 2 ≤ 1500000 ∧ bnd 1 ≤ 1500000 ∧ bnd 0 ≤ 1500000 := by decide
theorem initD {K : PySem.W.Frag} {F : Addr → Prop} {σ : L2.St} {H : Hp} {u : Nat} {vv : V} {ds : List PyData} {e : PyData} {Q : VK} (hF : ∀ p, H p = none → F p) (su : σ[u]? = some (some vv)) (hx : Dt F H vv (.tuple (ds ++ [e]))) (q : ∀ v H', Same H H' → Dt F H' v (.tuple ds) → Q v H') :
    tSl (rSlA K) (tVar u) tNoPart (tPart (tUn (rU fun i => V.int (-i)) (tC (V.int 1)))) σ H Q := by
  obtain ⟨a, xs, rfl, f, ha, r⟩ := hx.tupI
  have l := r.length
  rw [List.length_append] at l
  have l' : xs.length = ds.length + 1 := l
  have ix : HT.sIx xs.length xs.length (some (-1)) = ds.length := by
    have e0 : HT.sIx xs.length xs.length (some (-1)) = ((-1 : Int) + (xs.length : Int)).toNat := by
      show (if (-1 : Int) < 0 then ((-1 : Int) + (xs.length : Int)).toNat else min (-1 : Int).toNat xs.length) = _
      exact if_pos (by decide)
    rw [e0]
    omega
  refine ⟨_, su, _, rfl, _, rfl, a, xs, rfl, SqT.of ha, fun e => ?_, fun _ p np => ?_⟩
  · have e2 := e.2
    have e3 : HT.sIx xs.length xs.length (some (-1)) = xs.length := e2
    rw [ix] at e3
    omega
  · refine q _ _ (Same.new np) (.tup (hF p np) upd_same ?_)
    have : cutV xs none (some (-1)) = xs.take ds.length := by
      unfold cutV
      rw [ix, HT.sIx_none, List.drop_zero, Nat.sub_zero]
    show DtA F _ (cutV xs none (some (-1))) ds
    rw [this]
    have t := r.take ds.length
    rw [List.take_left' rfl] at t
    exact t.keep (Same.new np)
theorem dta_strs {F : Addr → Prop} {H : Hp} : ∀ {ns : List Str} {xs : List V}, DtA F H xs (ns.map PyData.str) → xs = ns.map V.str
  | [], _, h => by cases h; rfl
  | n :: ns, _, h => by
    cases h with
    | cons h0 r => rw [dta_strs r, h0.strI]; rfl
theorem names_ex {i : Nat} {d : PyData} (h : namesL[i]? = some d) : ∃ ns : List Str, d = .tuple (ns.map PyData.str) ∧ 1 ≤ ns.length ∧ ns.length ≤ 3 ∧ ∀ x ∈ ns, x ∈ abc := by
  have go : ∀ ns : List Str, (1 ≤ ns.length ∧ ns.length ≤ 3 ∧ ns.all (fun x => abc.contains x) = true) → 1 ≤ ns.length ∧ ns.length ≤ 3 ∧ ∀ x ∈ ns, x ∈ abc := fun ns h => ⟨h.1, h.2.1, fun x hx => List.contains_iff_mem.mp (List.all_eq_true.mp h.2.2 x hx)⟩
  match i, h with
  | 0, h => exact ⟨["a"], (Option.some.inj h).symm, go _ (by decide)⟩
  | 1, h => exact ⟨["b"], (Option.some.inj h).symm, go _ (by decide)⟩
  | 2, h => exact ⟨["a", "b"], (Option.some.inj h).symm, go _ (by decide)⟩
  | 3, h => exact ⟨["a", "c"], (Option.some.inj h).symm, go _ (by decide)⟩
  | 4, h => exact ⟨["b", "c"], (Option.some.inj h).symm, go _ (by decide)⟩
  | 5, h => exact ⟨["a", "b", "c"], (Option.some.inj h).symm, go _ (by decide)⟩
  | 6, h => exact ⟨["c"], (Option.some.inj h).symm, go _ (by decide)⟩
def deepD (x : Str) (m : Nat) : PyData := .tuple [.str x, (twr m).d, .tuple [.str "num"], .tuple [.tuple [.tuple [], .int 3], .tuple [.tuple [.tuple []], .int (-1)]]]
theorem deep_sz (x : Str) (m : Nat) (hx : x ∈ abc) (hm : m ≤ 200) : sz (deepD x m) ≤ 6000 := by
  have z := twr_sz m
  have zx : sz (.str x) ≤ 10 := by
    simp only [abc, List.mem_cons, List.not_mem_nil, or_false] at hx
    rcases hx with rfl | rfl | rfl <;> exact sz_word _ (by decide +kernel)
  have z1 : sz (.tuple [.tuple [.tuple [], .int 3], .tuple [.tuple [.tuple []], .int (-1)]]) ≤ 200 := by decide +kernel
  have z2 : sz (.tuple [.str "num"]) ≤ 100 := by decide +kernel
  have e : deepD x m = .tuple [.str x, (twr m).d, .tuple [.str "num"], .tuple [.tuple [.tuple [], .int 3], .tuple [.tuple [.tuple []], .int (-1)]]] := rfl
  have z0 := sz_tup [.str x, (twr m).d, .tuple [.str "num"], .tuple [.tuple [.tuple [], .int 3], .tuple [.tuple [.tuple []], .int (-1)]]]
  rw [e]
  rw [szA, szA, szA, szA, szA] at z0
  omega
theorem deep_ib (x : Str) (m : Nat) : IB (bg + 40) (deepD x m) := by
  refine ib_tup.mpr fun z hz => ?_
  simp only [List.mem_cons, List.not_mem_nil, or_false] at hz
  rcases hz with rfl | rfl | rfl | rfl
  · exact ib_str _
  · exact twr_ib _ _
  · exact ib_kd .num
  · exact (ibB_ok (show ibB 100 _ = true by decide +kernel)).mono (Nat.le_trans (bg_big (by decide)) (Nat.le_add_right _ _))
def spTh : Sp := fun vs H Q _ => ∃ (w : Addr) (c : Int), vs = [.ref w] ∧ Wl H w c ∧ c + 30000 < 2 ^ 60 ∧
  ∀ (v : V) (d : PyData) (c' : Int) (H' : Hp), Dt (Nw w) H' v d → sz d ≤ 2200000 → IB (bg + 1000) d → Kw w H H' → Wl H' w c' → c' ≤ c + 30000 → Q v H'
abbrev nTh : List Str := ["_law_well_here", "_law_link_here", "_law_way", "_law_form_here", "_law_step"]
theorem sc_nTh : FnScope nTh ["_law_well_here"] (defScope (top 64)) := ⟨rfl, rfl, rfl, by decide +kernel, rfl, by decide +kernel, by decide +kernel⟩
theorem ok_thing {f : Addr} {fd : FuncData} (F : FnP K "_law_thing" (top 64) f fd) (T : Bl K mg) (hDip : Has P w K mg base "_law_dip" ["_law_well_here", "_law_top"] 1 spDraw) (hPick : Has P w K mg base "_law_pick" ["_law_well_here", "_law_some"] 2 (spPick K)) (hLink : Has P w K mg base "_law_link" ["_law_well_here", "_law_names_here", "_law_left"] 10 spLk) (hNames : Has P w K mg base "_law_names" ["_law_well_here"] 3 (spOdd namesL)) (hOdd : Has P w K mg base "_law_odd" ["_law_well_here"] 3 (spOdd oddL3))
    (hTower : Has P w K mg base "_law_tower" ["_law_deep"] 1 spTw3) (hBent : Has P w K mg base "_law_bent" ["_law_well_here", "_law_thing_here", "_law_left"] 10 (spBn 6)) : FnOk P w K mg base CX0 11 f fd ["_law_well_here"] spTh := by
  obtain ⟨fDip, fdDip, kDip, gDip, bDip, GDip⟩ := hDip
  obtain ⟨fPick, fdPick, kPick, gPick, bPick, GPick⟩ := hPick
  obtain ⟨fLink, fdLink, kLink, gLink, bLink, GLink⟩ := hLink
  obtain ⟨fNames, fdNames, kNames, gNames, bNames, GNames⟩ := hNames
  obtain ⟨fOdd, fdOdd, kOdd, gOdd, bOdd, GOdd⟩ := hOdd
  obtain ⟨fTower, fdTower, kTower, gTower, bTower, GTower⟩ := hTower
  obtain ⟨fBent, fdBent, kBent, gBent, bBent, GBent⟩ := hBent
  refine F.ok sc_nTh (fun vs H Q E h => ?_) (fun cdv A outer s H vs Q E hr h => ?_)
  · obtain ⟨w, c, rfl, _⟩ := h
    rfl
  · obtain ⟨w, c, rfl, hw, hc, q⟩ := h
    have sc := sc_nTh
    have hrDip : Room 1 _ := hr.mono (by omega)
    have hrPick : Room 2 _ := hr.mono (by omega)
    have hrLink : Room 10 _ := hr
    have hrNames : Room 3 _ := hr.mono (by omega)
    have hrOdd : Room 3 _ := hr.mono (by omega)
    have hrTower : Room 1 _ := hr.mono (by omega)
    have hrBent : Room 10 _ := hr
    refine ⟨_, PSs.nox (pss_cons (ps_par (i := 1) (j := 2) (by rfl) sc.nd rfl rfl (by decide) rfl rfl (pa_cons (pe_call GLink hrLink rfl gLink kLink bLink .nil pass0 (pa_cons (pv 0) (pa_cons (pe_call GNames hrNames rfl gNames kNames bNames .nil pass0 (pa_cons (pv 0) pa_nil)) (pa_cons pe_int pa_nil)))) (pa_cons (pe_call GDip hrDip rfl gDip kDip bDip .nil pass0 (pa_cons (pv 0) (pa_cons pe_int pa_nil))) pa_nil)) (by rfl)) (pss_cons (ps_if (pt_cmpR op_eq (pv 2) pe_int (nomark _)) (pss_one (ps_ret (pe_call GOdd hrOdd rfl gOdd kOdd bOdd .nil pass0 (pa_cons (pv 0) pa_nil)))) pss_nil) (pss_cons (ps_if (pt_cmpR op_eq (pv 2) pe_int (nomark _)) (pss_cons (ps_set (i := 3) sc.nd rfl (Or.inl rfl) (pe_call GTower hrTower rfl gTower kTower bTower .nil pass0 (pa_cons (pe_call GPick hrPick rfl gPick kPick bPick .nil pass0 (pa_cons (pv 0) (pa_cons (pe_tup (pa_cons pe_int (pa_cons pe_int (pa_cons pe_int pa_nil)))) pa_nil))) pa_nil))) (pss_one (ps_ret (pe_op op_catA (pe_slice sl_tupA (pv 1) po_none (po_some (pe_un un_neg pe_int))) (pe_tup (pa_cons (pe_tup (pa_cons (pe_ix ix_tup (pe_ix ix_tup (pv 1) (pe_un un_neg pe_int) (fun _ _ => rfl)) pe_int (fun _ _ => rfl)) (pa_cons (pv 3) (pa_cons (pe_tup (pa_cons pe_str pa_nil)) (pa_cons (pe_tup (pa_cons (pe_tup (pa_cons (pe_tup pa_nil) (pa_cons pe_int pa_nil))) (pa_cons (pe_tup (pa_cons (pe_tup (pa_cons (pe_tup pa_nil) pa_nil)) (pa_cons (pe_un un_neg pe_int) pa_nil))) pa_nil))) pa_nil))))) pa_nil)))))) pss_nil) (pss_cons (ps_for PassesOwn.never rfl (pi_range1 rfl T.range (pa_cons (pe_call GPick hrPick rfl gPick kPick bPick .nil pass0 (pa_cons (pv 0) (pa_cons (pe_tup (pa_cons pe_int (pa_cons pe_int (pa_cons pe_int (pa_cons pe_int (pa_cons pe_int (pa_cons pe_int pa_nil))))))) pa_nil))) pa_nil)) (pg_name (i := 4) sc.nd rfl (Or.inl rfl)) (pss_one (ps_set (i := 1) sc.nd rfl (Or.inl rfl) (pe_call GBent hrBent rfl gBent kBent bBent .nil pass0 (pa_cons (pv 0) (pa_cons (pv 1) (pa_cons pe_int pa_nil))))))) (pss_one (ps_ret (pv 1))))))), ?_⟩
    have big : ∀ k : Nat, k ≤ 1000 → k ≤ sizeLine := fun k h => Nat.le_of_lt (small1000 h)
    refine ⟨_, rfl, _, rfl, w, c, rfl, hw, by omega, fun i nv nd c1 H1 hn dn k1 w1 g1 => ?_⟩
    obtain ⟨ns, rfl, n1, n3, nx⟩ := names_ex hn
    obtain ⟨t, xs, rfl, ft, ht, rt⟩ := dn.tupI
    have exs := dta_strs rt
    subst exs
    refine ⟨w, t, c1, ns, rfl, ht, n1, n3, nx, w1, by omega, fun lv ds c2 H2 dl rws l1 l3 k2 w2 g2 => ?_⟩
    refine ⟨_, rfl, w, 12, c2, rfl, w2, by omega, by decide, by decide, fun wy c3 H3 y0 y1 k3 w3 g3 => ?_⟩
    refine ⟨_, _, rfl, ?_⟩
    have k03 := k1.trans (k2.trans k3)
    have dl3 := dl.kw k3
    have sA := rws_sz rws l3
    have sT := sz_tup ds
    have ibd : IB (bg + 40) (.tuple ds) := ib_tup.mpr fun d hd => rw_ib (rws d hd)
    refine ⟨_, rfl, rfl, _, rfl, ite2 (fun g => ?_) (fun g => ?_)⟩
    · refine ⟨_, rfl, w, c3, rfl, w3, by omega, fun i v' e c4 H4 he de k4 w4 e4 => ?_⟩
      have bo := bs_odd (B := bg) (Nat.le_refl _) (d := .tuple []) (List.mem_of_getElem? he)
      have bl := bo.ln
      have z0 : sz (.tuple []) = 3 := by rw [sz_tup, szA]
      exact q v' e c4 H4 (de.nw w3.some) (by omega) (bo.ib.mono (by omega)) (k03.trans k4) w4 (by omega)
    refine ⟨_, rfl, rfl, _, rfl, ite2 (fun g2 => ?_) (fun g2 => ?_)⟩
    · -- a deep kind
      have d1 : DE (tTup _) (.tuple [.int 99, .int 100, .int 101]) := de_tup (da_cons (de_int _) (da_cons (de_int _) (da_cons (de_int _) da_nil))) (by decide)
      refine ⟨_, rfl, d1 _ H3 _ fun v4 H4 s4 t4 => ?_⟩
      obtain ⟨tt, xs, rfl, ftt, htt, rtt⟩ := t4.tupI
      have lt := rtt.length
      refine ⟨w, tt, xs, c3, rfl, w3.same s4, by omega, SqT.of htt, by rw [lt]; decide, by rw [lt]; decide, fun i u c5 H5 hi k5 w5 g5 => ?_⟩
      obtain ⟨d, hdd, td⟩ := rtt.get hi
      obtain ⟨m, rfl, hm⟩ : ∃ m : Nat, d = .int ((m + 1 : Nat) : Int) ∧ m ≤ 200 := by
        match i, hdd with
        | 0, h => exact ⟨98, (Option.some.inj h).symm, by decide⟩
        | 1, h => exact ⟨99, (Option.some.inj h).symm, by decide⟩
        | 2, h => exact ⟨100, (Option.some.inj h).symm, by decide⟩
      have eu := td.intI
      subst eu
      refine ⟨m, rfl, hm, fun fv H6 s6 d6 => ?_⟩
      have w6 := w5.same s6
      have k36 := (Kw.same s4).trans (k5.trans (Kw.same s6))
      have dl6 := dl3.kw k36
      have dfv : Dt (Nw w) H6 fv (twr m).d := d6.nw w5.some
      obtain ⟨ds0, e, rfl⟩ : ∃ ds0 e, ds = ds0 ++ [e] := by
        have : ds ≠ [] := fun z => by rw [z] at l1; exact absurd l1 (by decide)
        exact ⟨ds.dropLast, ds.getLast this, (List.dropLast_concat_getLast this).symm⟩
      refine initD (K := K) (nwF w6) rfl dl6 fun v7 H7 s7 d7 => ?_
      have w7 := w6.same s7
      have dl7 := dl6.keep s7
      have dfv7 := dfv.keep s7
      have re := rws e (by simp)
      obtain ⟨x, ka, kb, es, rfl, hx, _⟩ := re
      obtain ⟨la, lxs, elv, fla, hla, rla⟩ := dl7.tupI
      subst elv
      obtain ⟨u0, lx, elx, tu⟩ : ∃ (u0 : List V) (lx : V), lxs = u0 ++ [lx] ∧ Dt (Nw w) H7 lx (.tuple [.str x, ka.d, kb.d, .tuple es]) := by
        have lr := rla.length
        rw [List.length_append] at lr
        have ne : lxs ≠ [] := fun z => by rw [z] at lr; simp at lr
        refine ⟨lxs.dropLast, lxs.getLast ne, (List.dropLast_concat_getLast ne).symm, ?_⟩
        have ll : lxs[ds0.length]? = some (lxs.getLast ne) := by
          rw [List.getLast_eq_getElem, List.getElem?_eq_getElem (by rw [lr]; simp)]
          congr 1
          have : lxs.length - 1 = ds0.length := by rw [lr]; simp
          simp only [this]
        obtain ⟨d', hd', t'⟩ := rla.get ll
        rw [List.getElem?_append_right (Nat.le_refl _), Nat.sub_self] at hd'
        cases hd'
        exact t'
      subst elx
      obtain ⟨ra, rxs, rfl, fra, hra, rra⟩ := tu.tupI
      cases rra with
      | @cons r0 rr _ _ h0 rra =>
      have e0 := h0.strI
      subst e0
      have d2 : DA _ [.tuple [.str "num"], .tuple [.tuple [.tuple [], .int 3], .tuple [.tuple [.tuple []], .int (-1)]]] := da_cons (de_tup (da_cons (de_str _) da_nil) (by decide)) (da_cons (de_tup (da_cons (de_tup (da_cons (de_tup da_nil (by decide)) (da_cons (de_int _) da_nil)) (by decide)) (da_cons (de_tup (da_cons (de_tup (da_cons (de_tup da_nil (by decide)) da_nil) (by decide)) (da_cons (de_neg _) da_nil)) (by decide)) da_nil)) (by decide)) da_nil)
      refine ⟨_, rfl, _, rfl, la, _, _, _, rfl, rfl, SqT.of hla, atI_last u0 _, ra, _, 0, _, rfl, rfl, SqT.of hra, atI_nat (j := 0) rfl, _, rfl, ?_⟩
      refine d2 _ H7 _ fun vs8 H8 s8 t8 => ?_
      have l8 : vs8.length = 2 := t8.length
      have w8 := w7.same s8
      refine ⟨big _ (by show (V.str x :: fv :: vs8).length ≤ 1000; rw [List.length_cons, List.length_cons, l8]; decide), fun p np => ?_⟩
      have sp := @Same.new p _ (.tup (V.str x :: fv :: vs8)) np
      have w9 := w8.same sp
      have dp : Dt (Nw w) (upd H8 p (.tup (V.str x :: fv :: vs8))) (.ref p) (deepD x m) := by
        refine layD (nwF w8) np (.cons (.str _) (.cons (dfv7.keep s8) ?_))
        exact t8.move fun a o f e => ⟨nwF w7 a f, e⟩
      refine ⟨big _ (by show (1 : Nat) ≤ 1000; decide), fun p2 np2 => ?_⟩
      have sp2 := @Same.new p2 _ (.tup [V.ref p]) np2
      have w10 := w9.same sp2
      have dp2 : Dt (Nw w) _ (.ref p2) (.tuple [deepD x m]) := layD (nwF w9) np2 (.cons dp .nil)
      rw [List.length_append] at l3
      have l3' : ds0.length + 1 ≤ 3 := l3
      refine catD (K := K) (nwF w10) (((d7.keep s8).keep sp).keep sp2) dp2 (by show _ + 1 ≤ _; omega) fun v11 H11 s11 d11 => ?_
      have zd := deep_sz x m hx hm
      have sz1 := sz_tup (ds0 ++ [deepD x m])
      rw [szA_app, szA_one] at sz1
      rw [szA_app] at sA
      refine q v11 _ c5 H11 d11 (by omega) (ib_tup.mpr fun z hz => ?_) (k03.trans (k36.trans (Kw.same (s7.trans (s8.trans (sp.trans (sp2.trans s11))))))) (w10.same s11) (by omega)
      (rcases List.mem_append.mp hz with hz | hz)
      · exact (rw_ib (rws z (List.mem_append_left _ hz))).mono (Nat.add_le_add_left (by decide) _)
      · (rw [List.mem_singleton.mp hz])
        exact (deep_ib x m).mono (Nat.add_le_add_left (by decide) _)
    · -- bent some times
      have d1 : DE (tTup _) (.tuple [.int 0, .int 1, .int 1, .int 1, .int 2, .int 3]) := de_tup (da_cons (de_int _) (da_cons (de_int _) (da_cons (de_int _) (da_cons (de_int _) (da_cons (de_int _) (da_cons (de_int _) da_nil)))))) (by decide)
      refine ⟨_, rfl, d1 _ H3 _ fun v4 H4 s4 t4 => ?_⟩
      obtain ⟨tt, xs, rfl, ftt, htt, rtt⟩ := t4.tupI
      have lt := rtt.length
      refine ⟨w, tt, xs, c3, rfl, w3.same s4, by omega, SqT.of htt, by rw [lt]; decide, by rw [lt]; decide, fun i u c5 H5 hi k5 w5 g5 => ?_⟩
      obtain ⟨d, hdd, td⟩ := rtt.get hi
      obtain ⟨m, rfl, hm⟩ : ∃ m : Nat, d = .int (m : Int) ∧ m ≤ 3 := by
        match i, hdd with
        | 0, h => exact ⟨0, (Option.some.inj h).symm, by decide⟩
        | 1, h => exact ⟨1, (Option.some.inj h).symm, by decide⟩
        | 2, h => exact ⟨1, (Option.some.inj h).symm, by decide⟩
        | 3, h => exact ⟨1, (Option.some.inj h).symm, by decide⟩
        | 4, h => exact ⟨2, (Option.some.inj h).symm, by decide⟩
        | 5, h => exact ⟨3, (Option.some.inj h).symm, by decide⟩
      have eu := td.intI
      subst eu
      have k35 := (Kw.same s4).trans k5
      have bl := bnd_le
      refine ⟨_, rfl, by omega, by omega, for_range (lo := 0) (n := (m : Int).toNat) (fun i σ H6 => ∃ (v : V) (d : PyData) (t4 : Option V) (c6 : Int), σ = [some (.ref w), some v, some (.int wy), none, t4] ∧ Dt (Nw w) H6 v d ∧ sz d ≤ bnd i ∧ IB (bg + 40 + 5 * i) d ∧ Kw w H H6 ∧ Wl H6 w c6 ∧ c6 ≤ c5 + i * 22)
        ⟨lv, _, none, c5, rfl, dl3.kw k35, by show _ ≤ 270000; omega, by rw [Nat.mul_zero, Nat.add_zero]; exact ibd, k03.trans k35, w5, by omega⟩ ?_ ?_⟩
      · rintro i σ H6 hi ⟨v, d, t4, c6, rfl, d6, z6, b6, k6, w6, g6⟩
        have i2 : i ≤ 2 := by omega
        have zi : bnd i ≤ 1500000 := by
          match i, i2 with
          | 0, _ => exact bl.2.2.2
          | 1, _ => exact bl.2.2.1
          | 2, _ => exact bl.2.1
        refine ⟨_, rfl, _, rfl, w, v, d, bg + 40 + 5 * i, c6, rfl, d6, by omega, b6, by omega, by omega, w6, by omega, by decide, fun v' e c7 H7 d7 bs k7 w7 g7 => ?_⟩
        exact ⟨v', e, _, c7, rfl, d7, by show _ ≤ 2 * bnd i + 600; have := bs.ln; omega, by have := bs.ib; rw [show bg + 40 + 5 * (i + 1) = bg + 40 + 5 * i + 5 by omega]; exact this, k6.trans k7, w7, by omega⟩
      · rintro σ H6 ⟨v, d, t4, c6, rfl, d6, z6, b6, k6, w6, g6⟩
        rw [show (m : Int).toNat = m from rfl] at z6 b6 g6
        have zm : bnd m ≤ 2200000 := by
          match m, hm with
          | 0, _ => exact Nat.le_trans bl.2.2.2 (by decide)
          | 1, _ => exact Nat.le_trans bl.2.2.1 (by decide)
          | 2, _ => exact Nat.le_trans bl.2.1 (by decide)
          | 3, _ => exact bl.1
        exact ⟨_, rfl, q v d c6 H6 d6 (by omega) (b6.mono (by omega)) k6 w6 (by omega)⟩
end
end N3
namespace N3
open PySem PySem.Spec PyProof.Rows L2 KB
section
variable {K : PySem.W.Frag} {mg : Str → Option Value} {base : Heap} {P : Program} {w : World}
def HasK (P : Program) (w : World) (K : PySem.W.Frag) (mg : Str → Option Value) (base : Heap) (x : Str) (ps ks : List Str) (k : Nat) (sp : Sp) : Prop :=
  ∃ (f : Addr) (fd : FuncData) (g : List Value → List Value → List Value), PySem.W.keepIn K (.ref f) = true ∧ mg x = some (.ref f) ∧ Binds K fd ps [] ∧ KBinds K fd ps ks g (fun vs zs => vs ++ zs) ∧ FnOk P w K mg base CX0 k f fd ps sp
def spHo : Sp := fun vs H Q _ => ∃ (v : V) (d : PyData), vs = [v] ∧ Dt (Ot []) H v d ∧ sz d ≤ 2200000 ∧ IB (bg + 1000) d ∧ ∀ H', Same H H' → Q (.bl true) H'
theorem cA_sz (r : PyData) : sz (cA r) ≤ sz r := by
  unfold cA
  split
  · rename_i x k1 y z
    have z1 := sz_tup [x, k1, y, z]
    have z2 := sz_tup [x, k1]
    simp only [szA] at z1 z2
    omega
  · exact Nat.le_refl _
theorem cB_sz (r : PyData) : sz (cB r) ≤ sz r := by
  unfold cB
  split
  · rename_i x y k2 z
    have z1 := sz_tup [x, y, k2, z]
    have z2 := sz_tup [x, k2]
    simp only [szA] at z1 z2
    omega
  · exact Nat.le_refl _
theorem szA_map {f : PyData → PyData} (h : ∀ r, sz (f r) ≤ sz r) : ∀ rs : List PyData, szA (rs.map f) ≤ szA rs
  | [] => Nat.le_refl _
  | r :: rs => by
    have h1 := h r
    have h2 := szA_map h rs
    rw [List.map_cons, szA, szA]
    omega
theorem dp_tup2 {x y : PyData} {n : Nat} (hx : x.depth ≤ n) (hy : y.depth ≤ n) : (PyData.tuple [x, y]).depth ≤ n + 1 := by
  (simp only [PyData.depth, PyData.depthAll])
  omega
theorem dp_tupA {ds : List PyData} {n : Nat} (h : ∀ d ∈ ds, d.depth ≤ n) : (PyData.tuple ds).depth ≤ n + 1 := by
  simp only [PyData.depth]
  exact Nat.succ_le_succ (depthAll_le h)
theorem cAB_ok {r : PyData} (h : isRow r = true) : ((cA r).showable = true ∧ (cA r).depth ≤ 101) ∧ (cB r).showable = true ∧ (cB r).depth ≤ 101 := by
  obtain ⟨x, k1, k2, ps, rfl, gx, c1, c2, _⟩ := isRow_ex h
  have one : ∀ k : PyData, clN 100 k = true → (PyData.tuple [.str x, k]).showable = true ∧ (PyData.tuple [.str x, k]).depth ≤ 101 := fun k c => by
    obtain ⟨e1, e2, e3, e4⟩ := clN_ok 100 k c
    have sh := kd_show _ (okv_closed _ e2)
    have dp := Kd.depth (toK 100 k)
    rw [e1] at sh dp
    refine ⟨by simp only [PyData.showable, PyData.showableAll, sh, Bool.and_self], dp_tup2 (by simp only [PyData.depth]; omega) (by omega)⟩
  exact ⟨one k1 c1, one k2 c2⟩
theorem fil_ok {rs : List PyData} (h : rs.all isRow = true) (hz : sz (.tuple rs) ≤ 2200000) : (PyData.list [filD rs, filD rs]).showable = true ∧ (PyData.list [filD rs, filD rs]).depth ≤ 180 ∧ sz (.list [filD rs, filD rs]) ≤ 10000000 := by
  have ea : ∀ d ∈ rs.map cA, d.showable = true ∧ d.depth ≤ 101 := fun d hd => by
    obtain ⟨r, hr, rfl⟩ := List.mem_map.mp hd
    exact (cAB_ok (List.all_eq_true.mp h r hr)).1
  have eb : ∀ d ∈ rs.map cB, d.showable = true ∧ d.depth ≤ 101 := fun d hd => by
    obtain ⟨r, hr, rfl⟩ := List.mem_map.mp hd
    exact (cAB_ok (List.all_eq_true.mp h r hr)).2
  have sa : PyData.showableAll (rs.map cA) = true := showAll_iff.mpr fun d hd => (ea d hd).1
  have sb : PyData.showableAll (rs.map cB) = true := showAll_iff.mpr fun d hd => (eb d hd).1
  have da := dp_tupA fun d hd => (ea d hd).2
  have db := dp_tupA fun d hd => (eb d hd).2
  have df : (filD rs).depth ≤ 103 := dp_tup2 da db
  refine ⟨by simp only [filD, PyData.showable, PyData.showableAll, sa, sb, Bool.and_self], ?_, ?_⟩
  · simp only [PyData.depth, PyData.depthAll]
    omega
  · have z := sz_tup rs
    have za := szA_map cA_sz rs
    have zb := szA_map cB_sz rs
    have z1 := sz_tup (rs.map cA)
    have z2 := sz_tup (rs.map cB)
    have z3 : sz (filD rs) = szA [PyData.tuple (rs.map cA), PyData.tuple (rs.map cB)] + 3 := sz_tup _
    have z4 : sz (.list [filD rs, filD rs]) = szA [filD rs, filD rs] + 3 := by rw [sz]
    simp only [szA] at z3 z4
    omega
theorem bools_ok (a b : Bool) : (PyData.list [.bool a, .bool b, .bool a, .bool b]).showable = true ∧ (PyData.list [.bool a, .bool b, .bool a, .bool b]).depth ≤ 180 ∧ sz (.list [.bool a, .bool b, .bool a, .bool b]) ≤ 10000000 := by
  cases a <;> cases b <;> decide +kernel
theorem ot0 {H : Hp} : ∀ p, H p = none → Ot [] p := fun _ _ z => nomatch z
abbrev nHo : List Str := ["_law_thing_here", "_law_is_link_here", "_law_is_single_here", "_law_gave", "_law_row", "_law_due"]
theorem sc_nHo : FnScope nHo ["_law_thing_here"] (defScope (top 65)) := ⟨rfl, rfl, rfl, by decide +kernel, rfl, by decide +kernel, by decide +kernel⟩
theorem ok_holds {f : Addr} {fd : FuncData} (F : FnP K "_law_holds" (top 65) f fd) (T : Bl K mg) (hIl : Has P w K mg base "_law_is_link" ["_law_thing_here"] 104 spIl) (hIs : Has P w K mg base "_law_is_single" ["_law_link_here"] 1 spIsg) (hS : HasG P w K mg base "_law_is" ["_law_gave", "_law_due"] 1 spSame)
    (hR : HasK P w K mg base "is_relation" ["value"] ["value"] 11 spIre) (hU : HasK P w K mg base "is_turn" ["value"] ["value"] 12 spItu) (hFi : HasK P w K mg base "fillings" ["relation"] ["relation"] 11 spFi) : FnG P w K mg base 105 f fd ["_law_thing_here"] spHo := by
  obtain ⟨fIl, fdIl, kIl, gIl, bIl, GIl⟩ := hIl
  obtain ⟨fIs, fdIs, kIs, gIs, bIs, GIs⟩ := hIs
  obtain ⟨fS, fdS, kS, gS, bS, GS⟩ := hS
  obtain ⟨fR, fdR, ggR, kR, gR, bR, kbR, GR⟩ := hR
  obtain ⟨fU, fdU, ggU, kU, gU, bU, kbU, GU⟩ := hU
  obtain ⟨fFi, fdFi, ggFi, kFi, gFi, bFi, kbFi, GFi⟩ := hFi
  refine okG F sc_nHo (fun vs H Q h => ?_) (fun cdv A outer s H vs Q hgd hr h => ?_)
  · obtain ⟨v, d, rfl, _⟩ := h
    rfl
  · obtain ⟨v, d, rfl, hd, hsz, hib, q⟩ := h
    have sc := sc_nHo
    have hrIl : Room 104 _ := hr
    have hrIs : Room 1 _ := hr.mono (by decide)
    have hrS : Room 1 _ := hr.mono (by decide)
    have hrR : Room 11 _ := hr.mono (by decide)
    have hrU : Room 12 _ := hr.mono (by decide)
    have hrFi : Room 11 _ := hr.mono (by decide)
    refine ⟨_, (pss_cons (ps_set (i := 1) sc.nd rfl (Or.inl rfl) (pe_call GIl hrIl rfl gIl kIl bIl .nil pass0 (pa_cons (pv 0) pa_nil))) (pss_cons (ps_set (i := 2) sc.nd rfl (Or.inl rfl) (pe_and (pv 1) (pe_one (pe_call GIs hrIs rfl gIs kIs bIs .nil pass0 (pa_cons (pv 0) pa_nil))))) (pss_cons (ps_set (i := 3) sc.nd rfl (Or.inl rfl) (pe_lst (pa_cons (pe_call GR hrR rfl gR kR bR .nil pass0 (pa_cons (pv 0) pa_nil)) (pa_cons (pe_call GU hrU rfl gU kU bU .nil pass0 (pa_cons (pv 0) pa_nil)) (pa_cons (pe_callK0 GR hrR rfl gR kR kbR pass0 (pk_cons (pv 0) pk_nil)) (pa_cons (pe_callK0 GU hrU rfl gU kU kbU pass0 (pk_cons (pv 0) pk_nil)) pa_nil)))))) (pss_cons (ps_if (pt_not (pt_val (pe_callG GS hgd hrS rfl gS kS bS .nil (pa_cons (pv 3) (pa_cons (pe_lst (pa_cons (pv 1) (pa_cons (pv 2) (pa_cons (pv 1) (pa_cons (pv 2) pa_nil))))) pa_nil))))) (pss_one (ps_ret pe_bl)) pss_nil) (pss_cons (ps_if (pt_not (pt_val (pv 1))) (pss_one (ps_ret pe_bl)) pss_nil) (pss_cons (ps_set (i := 5) sc.nd rfl (Or.inl rfl) (pe_tup (pa_cons (pe_callTy call_tuple_of (by rfl) T.tuple (by decide +kernel) (pa_cons (pe_lc (own := [("_law_row", 4)]) (g := gName 4) (tt := tYes) (by rfl) sc.nd (pi_tup (pv 0)) (blkOk_by (own := [("_law_row", 4)]) (N := nHo) (sc := (defScope (top 65))) (by decide +kernel)) (fun _ _ _ _ _ => (pg_name (i := 4) sc.nd rfl (Or.inl rfl))) (fun _ _ _ _ _ => pts_nil) (fun _ _ _ _ _ => (pe_tup (pa_cons (pe_ix (ixT (K := K) rfl) (pv 4) pe_int (fun _ _ => rfl)) (pa_cons (pe_ix (ixT (K := K) rfl) (pv 4) pe_int (fun _ _ => rfl)) pa_nil))))) pa_nil)) (pa_cons (pe_callTy call_tuple_of (by rfl) T.tuple (by decide +kernel) (pa_cons (pe_lc (own := [("_law_row", 4)]) (g := gName 4) (tt := tYes) (by rfl) sc.nd (pi_tup (pv 0)) (blkOk_by (own := [("_law_row", 4)]) (N := nHo) (sc := (defScope (top 65))) (by decide +kernel)) (fun _ _ _ _ _ => (pg_name (i := 4) sc.nd rfl (Or.inl rfl))) (fun _ _ _ _ _ => pts_nil) (fun _ _ _ _ _ => (pe_tup (pa_cons (pe_ix (ixT (K := K) rfl) (pv 4) pe_int (fun _ _ => rfl)) (pa_cons (pe_ix (ixT (K := K) rfl) (pv 4) pe_int (fun _ _ => rfl)) pa_nil))))) pa_nil)) pa_nil)))) (pss_one (ps_ret (pe_callG GS hgd hrS rfl gS kS bS .nil (pa_cons (pe_lst (pa_cons (pe_call GFi hrFi rfl gFi kFi bFi .nil pass0 (pa_cons (pv 0) pa_nil)) (pa_cons (pe_callK0 GFi hrFi rfl gFi kFi kbFi pass0 (pk_cons (pv 0) pk_nil)) pa_nil))) (pa_cons (pe_lst (pa_cons (pv 5) (pa_cons (pv 5) pa_nil))) pa_nil))))))))))), ?_⟩
    have big : ∀ k : Nat, k ≤ 1000 → k ≤ sizeLine := fun k h => Nat.le_of_lt (small1000 h)
    have z4 : sz d ≤ 4000000 := by omega
    refine ⟨_, rfl, Ot [], v, d, rfl, ot0, hd, z4, hib, fun H1 s1 => ?_⟩
    have single : ∀ {R' : VK}, (R' (.bl (isRel d && isSgl d)) H1) → tAndV (tVar 1) (tCall spIsg [] E0 (tCons (tVar 0) tNil)) [some v, some (.bl (isRel d)), none, none, none, none] H1 R' := fun {R'} h => by
      refine ⟨_, rfl, ?_⟩
      cases rel : isRel d with
      | false =>
        rw [rel] at h
        exact ⟨_, rfl, ifF rfl h⟩
      | true =>
        rw [rel, Bool.true_and] at h
        exact ⟨_, rfl, ifT rfl ⟨_, rfl, Ot [], v, d, rfl, hd.keep s1, z4, hib, rel, h⟩⟩
    refine single ?_
    have hd1 := hd.keep s1
    -- what the program says
    refine ⟨_, rfl, Ot [], v, d, rfl, hd1, z4, hib, fun H2 s2 => ?_⟩
    have hd2 := hd1.keep s2
    refine ⟨_, rfl, Ot [], v, d, rfl, ot0, hd2, z4, hib, fun H3 s3 => ?_⟩
    have hd3 := hd2.keep s3
    refine ⟨_, rfl, Ot [], v, d, rfl, hd3, z4, hib, fun H4 s4 => ?_⟩
    have hd4 := hd3.keep s4
    refine ⟨_, rfl, Ot [], v, d, rfl, ot0, hd4, z4, hib, fun H5 s5 => ?_⟩
    have hd5 := hd4.keep s5
    have s05 := s1.trans (s2.trans (s3.trans (s4.trans s5)))
    refine ⟨big _ (by show (4 : Nat) ≤ 1000; decide), fun L nL => ?_⟩
    have sL := @Same.new L _ (.lst [V.bl (isRel d), .bl (isRel d && isSgl d), .bl (isRel d), .bl (isRel d && isSgl d)]) nL
    refine ⟨_, rfl, _, rfl, _, rfl, _, rfl, _, rfl, big _ (by show (4 : Nat) ≤ 1000; decide), fun M nM => ?_⟩
    have sM := @Same.new M _ (.lst [V.bl (isRel d), .bl (isRel d && isSgl d), .bl (isRel d), .bl (isRel d && isSgl d)]) nM
    have row : ∀ {H6 : Hp} {N : Addr}, H6 N = some (.lst [V.bl (isRel d), .bl (isRel d && isSgl d), .bl (isRel d), .bl (isRel d && isSgl d)]) → Dt (Ot []) H6 (.ref N) (.list [.bool (isRel d), .bool (isRel d && isSgl d), .bool (isRel d), .bool (isRel d && isSgl d)]) := fun h =>
      .lst (fun z => nomatch z) h (.cons (.bl _) (.cons (.bl _) (.cons (.bl _) (.cons (.bl _) .nil))))
    obtain ⟨o1, o2, o3⟩ := bools_ok (isRel d) (isRel d && isSgl d)
    refine ⟨Ot [], _, _, _, rfl, row (sM _ _ upd_same), row upd_same, o1, o2, o3, ⟨_, rfl, ifF rfl ?_⟩⟩
    have hd7 := (hd5.keep sL).keep sM
    have s07 := s05.trans (sL.trans sM)
    clear row single
    generalize upd (upd H5 L _) M _ = H7 at hd7 s07 ⊢
    refine ⟨_, rfl, _, rfl, ?_⟩
    cases rel : isRel d with
    | false => exact ifT rfl (q _ s07)
    | true =>
    refine ifF rfl ?_
    obtain ⟨rs, rfl, ok, asc⟩ := isRel_ex rel
    obtain ⟨a, xs, rfl, fa, ha, ra⟩ := hd7.tupI
    have ll := ra.length
    have sz0 := sz_tup rs
    have lz := szA_len rs
    refine ⟨_, rfl, a, rfl, ⟨_, SqT.of ha⟩, fun D nD => lc_tup (K := K) (a := a) (xs := xs) (fun i H2 => Same H7 H2 ∧ ∃ vs, H2 D = some (.lst vs) ∧ DtA (fun c => Ot [] c ∧ c ≠ D) H2 vs ((rs.take i).map cA)) ⟨Same.new nD, [], upd_same, .nil⟩ (fun i H2 _ hP => SqT.of (hP.1 a _ ha)) ?_ ?_⟩
    · rintro i e H2 hi ⟨sm, vs, hD, dt⟩
      obtain ⟨de, hde, dte⟩ := ra.get hi
      have il := (List.getElem?_eq_some_iff.mp hde).1
      have rw1 := List.all_eq_true.mp ok de (List.mem_of_getElem? hde)
      obtain ⟨b, v0, v1, v2, v3, d0, d1, d2, d3, rfl, hb, rfl, r0, r1, r2, r3⟩ := row_at dte rw1
      have lv := dt.length
      rw [List.length_map, List.length_take] at lv
      refine ⟨rfl, ?_⟩
      refine iteT (B := Same H7 H2 ∧ ∃ vs, H2 D = some (.lst vs) ∧ DtA (fun c => Ot [] c ∧ c ≠ D) H2 vs ((rs.take (i + 1)).map cA)) ?_
      refine ⟨_, rfl, b, _, 0, _, rfl, rfl, SqT.of (sm _ _ hb), rfl, _, rfl, b, _, 1, _, rfl, rfl, SqT.of (sm _ _ hb), rfl, big _ (by show (2 : Nat) ≤ 1000; decide), fun p np => ?_⟩
      have npD : D ≠ p := ne_of_none hD np
      refine ⟨vs, by rw [upd_ne npD]; exact hD, Nat.lt_of_le_of_lt (by omega : _ ≤ 4000000) (by decide), fun b' o e2 => ?_, vs ++ [.ref p], upd_same, ?_⟩
      · rw [upd_ne (ne_of_none e2 nD), upd_ne (ne_of_none (sm b' o e2) np)]
        exact sm b' o e2
      · rw [take_snoc hde, List.map_append]
        have old : DtA (fun c => Ot [] c ∧ c ≠ D) (upd (upd H2 p (.tup [v0, v1])) D (.lst (vs ++ [.ref p]))) vs ((rs.take i).map cA) := dt.move fun c o f e => ⟨f, by rw [upd_ne f.2, upd_ne (ne_of_none e np)]; exact e⟩
        have mv : ∀ {u : V} {z : PyData}, Dt (Ot []) H7 u z → Dt (fun c => Ot [] c ∧ c ≠ D) (upd (upd H2 p (.tup [v0, v1])) D (.lst (vs ++ [.ref p]))) u z := fun t => t.move fun c o f e => ⟨⟨f, ne_of_none e nD⟩, by
          have e3 := sm _ _ e
          rw [upd_ne (ne_of_none e nD), upd_ne (ne_of_none e3 np)]; exact e3⟩
        exact old.append (.cons (.tup ⟨(fun z => nomatch z), npD.symm⟩ (by rw [upd_ne npD.symm]; exact upd_same) (.cons (mv r0) (.cons (mv r1) .nil))) .nil)
    rintro HA ⟨sHA, vsHA, hDHA, dtHA⟩
    rw [ll, List.take_length] at dtHA
    refine ⟨D, vsHA, rfl, .inl ⟨SqL.of hDHA, fun pHA npHA => ?_⟩⟩
    have sA := sHA.trans (@Same.new pHA _ (.tup vsHA) npHA)
    have tA : Dt (Ot []) (upd HA pHA (.tup vsHA)) (.ref pHA) (.tuple (rs.map cA)) := .tup (fun z => nomatch z) upd_same ((dtHA.move fun c o f e => ⟨f.1, e⟩).keep (Same.new npHA))
    have ra2 := ra.keep sA
    have ha2 := sA _ _ ha
    generalize upd HA pHA (.tup vsHA) = HB at tA sA ra2 ha2 ⊢
    refine ⟨_, rfl, a, rfl, ⟨_, SqT.of ha2⟩, fun D nD => lc_tup (K := K) (a := a) (xs := xs) (fun i H2 => Same HB H2 ∧ ∃ vs, H2 D = some (.lst vs) ∧ DtA (fun c => Ot [] c ∧ c ≠ D) H2 vs ((rs.take i).map cB)) ⟨Same.new nD, [], upd_same, .nil⟩ (fun i H2 _ hP => SqT.of (hP.1 a _ ha2)) ?_ ?_⟩
    · rintro i e H2 hi ⟨sm, vs, hD, dt⟩
      obtain ⟨de, hde, dte⟩ := ra2.get hi
      have il := (List.getElem?_eq_some_iff.mp hde).1
      have rw1 := List.all_eq_true.mp ok de (List.mem_of_getElem? hde)
      obtain ⟨b, v0, v1, v2, v3, d0, d1, d2, d3, rfl, hb, rfl, r0, r1, r2, r3⟩ := row_at dte rw1
      have lv := dt.length
      rw [List.length_map, List.length_take] at lv
      refine ⟨rfl, ?_⟩
      refine iteT (B := Same HB H2 ∧ ∃ vs, H2 D = some (.lst vs) ∧ DtA (fun c => Ot [] c ∧ c ≠ D) H2 vs ((rs.take (i + 1)).map cB)) ?_
      refine ⟨_, rfl, b, _, 0, _, rfl, rfl, SqT.of (sm _ _ hb), rfl, _, rfl, b, _, 2, _, rfl, rfl, SqT.of (sm _ _ hb), rfl, big _ (by show (2 : Nat) ≤ 1000; decide), fun p np => ?_⟩
      have npD : D ≠ p := ne_of_none hD np
      refine ⟨vs, by rw [upd_ne npD]; exact hD, Nat.lt_of_le_of_lt (by omega : _ ≤ 4000000) (by decide), fun b' o e2 => ?_, vs ++ [.ref p], upd_same, ?_⟩
      · rw [upd_ne (ne_of_none e2 nD), upd_ne (ne_of_none (sm b' o e2) np)]
        exact sm b' o e2
      · rw [take_snoc hde, List.map_append]
        have old : DtA (fun c => Ot [] c ∧ c ≠ D) (upd (upd H2 p (.tup [v0, v2])) D (.lst (vs ++ [.ref p]))) vs ((rs.take i).map cB) := dt.move fun c o f e => ⟨f, by rw [upd_ne f.2, upd_ne (ne_of_none e np)]; exact e⟩
        have mv : ∀ {u : V} {z : PyData}, Dt (Ot []) HB u z → Dt (fun c => Ot [] c ∧ c ≠ D) (upd (upd H2 p (.tup [v0, v2])) D (.lst (vs ++ [.ref p]))) u z := fun t => t.move fun c o f e => ⟨⟨f, ne_of_none e nD⟩, by
          have e3 := sm _ _ e
          rw [upd_ne (ne_of_none e nD), upd_ne (ne_of_none e3 np)]; exact e3⟩
        exact old.append (.cons (.tup ⟨(fun z => nomatch z), npD.symm⟩ (by rw [upd_ne npD.symm]; exact upd_same) (.cons (mv r0) (.cons (mv r2) .nil))) .nil)
    rintro HC ⟨sHC, vsHC, hDHC, dtHC⟩
    rw [ll, List.take_length] at dtHC
    refine ⟨D, vsHC, rfl, .inl ⟨SqL.of hDHC, fun pHC npHC => ?_⟩⟩
    have sC := sHC.trans (@Same.new pHC _ (.tup vsHC) npHC)
    have tB : Dt (Ot []) (upd HC pHC (.tup vsHC)) (.ref pHC) (.tuple (rs.map cB)) := .tup (fun z => nomatch z) upd_same ((dtHC.move fun c o f e => ⟨f.1, e⟩).keep (Same.new npHC))
    have tA2 := tA.keep sC
    generalize upd HC pHC (.tup vsHC) = HD at tB sC tA2 ⊢
    refine ⟨big _ (by show (2 : Nat) ≤ 1000; decide), fun pd npd => ?_⟩
    have sP := @Same.new pd _ (.tup [V.ref pHA, .ref pHC]) npd
    have due : Dt (Ot []) (upd HD pd (.tup [V.ref pHA, .ref pHC])) (.ref pd) (filD rs) := .tup (fun z => nomatch z) upd_same (.cons (tA2.keep sP) (.cons (tB.keep sP) .nil))
    have s7P := sA.trans (sC.trans sP)
    have hd8 := hd7.keep s7P
    generalize upd HD pd (.tup [V.ref pHA, .ref pHC]) = HP at due s7P hd8 ⊢
    refine ⟨_, rfl, Ot [], _, rs, rfl, ot0, hd8, z4, hib, rel, fun u1 H9 s9 t9 => ?_⟩
    refine ⟨_, rfl, Ot [], _, rs, rfl, ot0, hd8.keep s9, z4, hib, rel, fun u2 H10 s10 t10 => ?_⟩
    refine ⟨big _ (by show (2 : Nat) ≤ 1000; decide), fun L1 nL1 => ?_⟩
    have sL1 := @Same.new L1 _ (.lst [u1, u2]) nL1
    refine ⟨_, rfl, _, rfl, big _ (by show (2 : Nat) ≤ 1000; decide), fun L2 nL2 => ?_⟩
    have sL2 := @Same.new L2 _ (.lst [V.ref pd, .ref pd]) nL2
    obtain ⟨f1, f2, f3⟩ := fil_ok ok hsz
    have t9' := (((t9.keep s10).keep sL1).keep sL2)
    have t10' := (t10.keep sL1).keep sL2
    have due' := (((due.keep s9).keep s10).keep sL1).keep sL2
    exact ⟨Ot [], _, _, _, rfl, .lst (fun z => nomatch z) (sL2 _ _ upd_same) (.cons t9' (.cons t10' .nil)), .lst (fun z => nomatch z) upd_same (.cons due' (.cons due' .nil)), f1, f2, f3, q _ (s07.trans (s7P.trans (s9.trans (s10.trans (sL1.trans sL2)))))⟩
end
end N3
namespace N3
open PySem PySem.Spec PyProof.Rows L2 KB
section
variable {K : PySem.W.Frag} {mg : Str → Option Value} {base : Heap} {P : Program} {w : World}
abbrev nRi : List Str := ["_law_well_here", "_law_step", "_law_form_here", "_law_due"]
theorem sc_nRi : FnScope nRi ["_law_well_here"] (defScope (top 66)) := ⟨rfl, rfl, rfl, by decide +kernel, rfl, by decide +kernel, by decide +kernel⟩
theorem bool2_ok (b : Bool) : (PyData.list [.bool b, .bool b]).showable = true ∧ (PyData.list [.bool b, .bool b]).depth ≤ 180 ∧ sz (.list [.bool b, .bool b]) ≤ 10000000 := by
  cases b <;> decide +kernel
theorem ok_right {f : Addr} {fd : FuncData} (F : FnP K "_law_right" (top 66) f fd) (T : Bl K mg) (hHo : HasG P w K mg base "_law_holds" ["_law_thing_here"] 105 spHo) (hTh : Has P w K mg base "_law_thing" ["_law_well_here"] 11 spTh) (hFm : Has P w K mg base "_law_form" ["_law_well_here", "_law_left", "_law_names_here", "_law_lot"] 6 (spFm 3))
    (hPick : Has P w K mg base "_law_pick" ["_law_well_here", "_law_some"] 2 (spPick K)) (hItr : Has P w K mg base "_law_is_tried" ["_law_form_here", "_law_is_home"] 5 (spItr 4)) (hS : HasG P w K mg base "_law_is" ["_law_gave", "_law_due"] 1 spSame) (hIt : HasK P w K mg base "is_tried" ["kind"] ["kind"] 8 (spTr false)) : FnG P w K mg base 106 f fd ["_law_well_here"] spOne := by
  obtain ⟨fHo, fdHo, kHo, gHo, bHo, GHo⟩ := hHo
  obtain ⟨fTh, fdTh, kTh, gTh, bTh, GTh⟩ := hTh
  obtain ⟨fFm, fdFm, kFm, gFm, bFm, GFm⟩ := hFm
  obtain ⟨fPick, fdPick, kPick, gPick, bPick, GPick⟩ := hPick
  obtain ⟨fItr, fdItr, kItr, gItr, bItr, GItr⟩ := hItr
  obtain ⟨fS, fdS, kS, gS, bS, GS⟩ := hS
  obtain ⟨fIt, fdIt, ggIt, kIt, gIt, bIt, kbIt, GIt⟩ := hIt
  refine okG F sc_nRi (fun vs H Q h => ?_) (fun cdv A outer s H vs Q hgd hr h => ?_)
  · obtain ⟨w, c, rfl, _⟩ := h
    rfl
  · obtain ⟨w, c, rfl, hw, hc, q⟩ := h
    have sc := sc_nRi
    have hrHo : Room 105 _ := hr
    have hrTh : Room 11 _ := hr.mono (by decide)
    have hrFm : Room 6 _ := hr.mono (by decide)
    have hrPick : Room 2 _ := hr.mono (by decide)
    have hrItr : Room 5 _ := hr.mono (by decide)
    have hrS : Room 1 _ := hr.mono (by decide)
    have hrIt : Room 8 _ := hr.mono (by decide)
    refine ⟨_, (pss_cons (ps_for PassesOwn.never rfl (pi_range1 rfl T.range (pa_cons pe_int pa_nil)) (pg_name (i := 1) sc.nd rfl (Or.inl rfl)) (pss_cons (ps_if (pt_not (pt_val (pe_callG GHo hgd hrHo rfl gHo kHo bHo .nil (pa_cons (pe_call GTh hrTh rfl gTh kTh bTh .nil pass0 (pa_cons (pv 0) pa_nil)) pa_nil)))) (pss_one (ps_ret pe_bl)) pss_nil) (pss_cons (ps_set (i := 2) sc.nd rfl (Or.inl rfl) (pe_call GFm hrFm rfl gFm kFm bFm .nil pass0 (pa_cons (pv 0) (pa_cons pe_int (pa_cons (pe_tup (pa_cons pe_str (pa_cons pe_str (pa_cons pe_str pa_nil)))) (pa_cons (pe_call GPick hrPick rfl gPick kPick bPick .nil pass0 (pa_cons (pv 0) (pa_cons (pe_tup (pa_cons pe_str (pa_cons pe_str (pa_cons pe_str (pa_cons pe_str pa_nil))))) pa_nil))) pa_nil)))))) (pss_cons (ps_set (i := 3) sc.nd rfl (Or.inl rfl) (pe_call GItr hrItr rfl gItr kItr bItr .nil pass0 (pa_cons (pv 2) (pa_cons pe_bl pa_nil)))) (pss_one (ps_if (pt_not (pt_val (pe_callG GS hgd hrS rfl gS kS bS .nil (pa_cons (pe_lst (pa_cons (pe_call GIt hrIt rfl gIt kIt bIt .nil pass0 (pa_cons (pv 2) pa_nil)) (pa_cons (pe_callK0 GIt hrIt rfl gIt kIt kbIt pass0 (pk_cons (pv 2) pk_nil)) pa_nil))) (pa_cons (pe_lst (pa_cons (pv 3) (pa_cons (pv 3) pa_nil))) pa_nil))))) (pss_one (ps_ret pe_bl)) pss_nil)))))) (pss_one (ps_ret pe_bl))), ?_⟩
    have big : ∀ k : Nat, k ≤ 1000 → k ≤ sizeLine := fun k h => Nat.le_of_lt (small1000 h)
    refine ⟨5, rfl, by decide, by decide, for_range (lo := 0) (n := (5 : Int).toNat) (fun i σ H3 => ∃ (t1 t2 t3 : Option V) (c3 : Int), σ = [some (.ref w), t1, t2, t3] ∧ Kw w H H3 ∧ Wl H3 w c3 ∧ c3 ≤ c + i * 31000)
      ⟨none, none, none, c, rfl, Kw.refl w H, hw, by omega⟩ ?_ ?_⟩
    · rintro i σ H3 hi ⟨t1, t2, t3, c3, rfl, k3, w3, g3⟩
      have i5 : i < 5 := hi
      have lim : (i : Int) * 31000 ≤ 4 * 31000 := Int.mul_le_mul_of_nonneg_right (by omega) (by omega)
      refine ⟨_, rfl, w, c3, rfl, w3, by omega, fun v d c4 H4 dv zd bd k4 w4 g4 => ?_⟩
      refine ⟨v, d, rfl, dv.any, zd, bd, fun H5 s5 => ⟨_, rfl, ifF rfl ?_⟩⟩
      have w5 := w4.same s5
      have k35 := k4.trans (Kw.same s5)
      refine ⟨_, rfl, big _ (by show (3 : Nat) ≤ 1000; decide), fun t nt => ?_⟩
      have st := @Same.new t _ (.tup [.str "a", .str "b", .str "c"]) nt
      have w6 := w5.same st
      have tw : t ≠ w := (w5.ne nt).symm
      refine ⟨_, rfl, big _ (by show (4 : Nat) ≤ 1000; decide), fun t' nt' => ?_⟩
      have st' := @Same.new t' _ (.tup [.str "any", .str "tried", .str "any", .str "small"]) nt'
      have w7 := w6.same st'
      refine ⟨w, t', _, c4, rfl, w7, by omega, SqT.of upd_same, by decide, by decide, fun j lot c8 H8 hj k8 w8 g8 => ?_⟩
      obtain ⟨x, rfl, hx⟩ : ∃ x : Str, lot = .str x ∧ (x = "any" ∨ x = "tried" ∨ x = "small") := by
        match j, hj with
        | 0, hj => exact ⟨_, (Option.some.inj hj).symm, .inl rfl⟩
        | 1, hj => exact ⟨_, (Option.some.inj hj).symm, .inr (.inl rfl)⟩
        | 2, hj => exact ⟨_, (Option.some.inj hj).symm, .inl rfl⟩
        | 3, hj => exact ⟨_, (Option.some.inj hj).symm, .inr (.inr rfl)⟩
      have ck3 : Ck 3 = 30 := by decide
      refine ⟨w, t, x, c8, rfl, w8, by omega, k8 _ _ tw (st' _ _ upd_same), hx, fun fv k c9 H9 df dp ov k9 w9 g9 => ?_⟩
      have k39 := k35.trans ((Kw.same (st.trans st')).trans (k8.trans k9))
      refine ⟨_, rfl, Nw w, fv, k, false, rfl, nwF w9, df, dp, fun H10 s10 => ?_⟩
      have df10 := df.keep s10
      have zk : sz k.d ≤ 4000000 := by
        have q1 := sz_kz k ov
        have q2 := Kd.kz_dep k
        have q3 : 2 ^ k.dep ≤ 2 ^ 4 := Nat.pow_le_pow_right (by decide) dp
        omega
      refine ⟨_, rfl, Nw w, fv, k, rfl, df10, ov, by omega, zk, fun H11 s11 => ?_⟩
      refine ⟨_, rfl, Nw w, fv, k, rfl, df10.keep s11, ov, by omega, zk, fun H12 s12 => ?_⟩
      refine ⟨big _ (by show (2 : Nat) ≤ 1000; decide), fun L nL => ?_⟩
      have sL := @Same.new L _ (.lst [V.bl (trB k false), .bl (trB k false)]) nL
      refine ⟨_, rfl, _, rfl, big _ (by show (2 : Nat) ≤ 1000; decide), fun M nM => ?_⟩
      have sM := @Same.new M _ (.lst [V.bl (trB k false), .bl (trB k false)]) nM
      have row : ∀ {H6 : Hp} {N : Addr}, H6 N = some (.lst [V.bl (trB k false), .bl (trB k false)]) → Dt (Ot []) H6 (.ref N) (.list [.bool (trB k false), .bool (trB k false)]) := fun h =>
        .lst (fun z => nomatch z) h (.cons (.bl _) (.cons (.bl _) .nil))
      obtain ⟨o1, o2, o3⟩ := bool2_ok (trB k false)
      refine ⟨Ot [], _, _, _, rfl, row (sM _ _ upd_same), row upd_same, o1, o2, o3, ⟨_, rfl, ifF rfl ?_⟩⟩
      have sE := s10.trans (s11.trans (s12.trans (sL.trans sM)))
      exact ⟨_, _, _, c9, rfl, k3.trans (k39.trans (Kw.same sE)), w9.same sE, by omega⟩
    · rintro σ H3 ⟨t1, t2, t3, c3, rfl, k3, w3, g3⟩
      exact q H3 k3
def spLaw (K : PySem.W.Frag) : Sp := fun vs H Q _ => ∃ (a : Addr) (ns : List Int), vs = [.ref a] ∧ SqL K H a (ns.map V.int) ∧ ∀ H' : Hp, Q (.bl true) H'
theorem few3 (n : Int) (h : 0 ≤ n) : ∃ m : Int, (if (if (3 : Int) < n then (3 : Int) else n) > 1 then (if (3 : Int) < n then (3 : Int) else n) else 1) = m ∧ 1 ≤ m ∧ m ≤ 3 := by
  refine ⟨_, rfl, ?_⟩
  by_cases h : (3 : Int) < n
  · rw [if_pos h]
    exact ⟨by decide, by decide⟩
  · rw [if_neg h]
    by_cases h2 : n > 1
    · rw [if_pos h2]; omega
    · rw [if_neg h2]; omega
abbrev nLaw3 : List Str := ["_law_script", "_law_turn"]
theorem sc_nLaw3 : FnScope nLaw3 ["_law_script"] (defScope (top 67)) := ⟨rfl, rfl, rfl, by decide +kernel, rfl, by decide +kernel, by decide +kernel⟩
theorem ok_law {f : Addr} {fd : FuncData} (F : FnP K "law" (top 67) f fd) (T : Bl K mg) (hW : Has P w K mg base "_law_well" ["_law_script", "_law_turn"] 1 (spWell K)) (hR : HasG P w K mg base "_law_right" ["_law_well_here"] 106 spOne) : FnG P w K mg base 107 f fd ["_law_script"] (spLaw K) := by
  obtain ⟨fW, fdW, kW, gW, bW, GW⟩ := hW
  obtain ⟨fR, fdR, kR, gR, bR, GR⟩ := hR
  refine okG F sc_nLaw3 (fun vs H Q h => ?_) (fun cdv A outer s H vs Q hgd hr h => ?_)
  · obtain ⟨a, ns, rfl, _⟩ := h
    rfl
  · obtain ⟨a, ns, rfl, hS, q⟩ := h
    have sc := sc_nLaw3
    have hrW : Room 1 _ := hr.mono (by decide)
    have hrR : Room 106 _ := hr
    refine ⟨_, (pss_cons (ps_for PassesOwn.never rfl (pi_range1 rfl T.range (pa_cons (pe_callB (call_max2 rfl) (by rfl) T.max (by decide +kernel) (pa_cons pe_int (pa_cons (pe_callB (call_min2 rfl) (by rfl) T.min (by decide +kernel) (pa_cons (pe_callB call_len (by rfl) T.len (by decide +kernel) (pa_cons (pv 0) pa_nil)) (pa_cons pe_int pa_nil))) pa_nil))) pa_nil)) (pg_name (i := 1) sc.nd rfl (Or.inl rfl)) (pss_one (ps_if (pt_not (pt_val (pe_callG GR hgd hrR rfl gR kR bR .nil (pa_cons (pe_call GW hrW rfl gW kW bW .nil pass0 (pa_cons (pv 0) (pa_cons (pv 1) pa_nil))) pa_nil)))) (pss_one (ps_ret pe_bl)) pss_nil))) (pss_one (ps_ret pe_bl))), ?_⟩
    refine ⟨_, rfl, _, _, rfl, .inl ⟨_, hS, rfl⟩, _, _, rfl, _, _, rfl, ?_⟩
    obtain ⟨m, em, m1, m3⟩ := few3 ((List.map V.int ns).length : Int) (by omega)
    rw [em]
    refine ⟨m, rfl, by omega, by omega, for_range (lo := 0) (n := m.toNat) (fun i σ H2 => (∃ t, σ = [some (.ref a), t]) ∧ Same H H2) ⟨⟨none, rfl⟩, Same.refl H⟩ ?_ ?_⟩
    · rintro i σ H2 hi ⟨⟨t, rfl⟩, sm⟩
      have i3 : i < 3 := by omega
      refine ⟨_, rfl, _, rfl, a, ns, _, rfl, sm.seq hS, by omega, by omega, fun w1 H3 nw s3 w3 => ?_⟩
      refine ⟨w1, 0, rfl, w3, by decide, fun H4 k4 => ⟨_, rfl, ifF rfl ⟨⟨_, rfl⟩, fun b o e => ?_⟩⟩⟩
      have e2 := sm b o e
      exact k4 b o (ne_of_none e2 nw) (s3 b o e2)
    · rintro σ H2 ⟨⟨t, rfl⟩, sm⟩
      exact q H2
end
end N3
namespace N3
open PySem PySem.Spec PyProof.Rows L2 KB
def lawL : List (Str × Nat) := ([("_law_well", 40), ("_law_dip", 41), ("_law_pick", 42), ("_law_is", 43), ("_law_truth", 44), ("_law_names", 45), ("_law_number", 46), ("_law_closed", 47), ("_law_form", 48), ("_law_worth", 49), ("_law_key", 50), ("_law_rising", 51), ("_law_rows", 52), ("_law_link", 53), ("_law_odd", 54), ("_law_bent", 55), ("_law_is_whole", 56), ("_law_is_closed", 57), ("_law_has", 58), ("_law_is_row", 59)] : List (Str × Nat)) ++ ([("_law_is_link", 60), ("_law_is_single", 61), ("_law_is_tried", 62), ("_law_tower", 63), ("_law_thing", 64), ("_law_holds", 65), ("_law_right", 66), ("law", 67)] : List (Str × Nat))
def proL : List (Str × Str × Nat) := ([("is_data_kind", "is_data_kind", 8), ("is_closed_kind", "is_closed_kind", 9), ("parts_of_kind", "parts_of_kind", 10), ("is_text_of", "is_text_of", 11), ("_is_kind_without", "_is_kind_without", 12), ("_told_parts", "_told_parts", 13), ("_parts_with_levels", "_parts_with_levels", 14), ("has_form_kinds", "_has_form", 15), ("is_value", "is_value", 18), ("is_number", "is_number", 19), ("_check_kind", "_check_kind", 20), ("_stands_under", "_stands_under", 21), ("has_form_values", "_has_form", 22), ("_parts_below", "_parts_below", 24), ("is_small_kind", "is_small_kind", 27), ("is_tried_kind", "is_tried_kind", 28), ("both_fillings", "both_fillings", 29), ("is_relation", "is_relation", 31), ("fillings", "fillings", 32), ("is_tried", "is_tried", 33)] : List (Str × Str × Nat)) ++ ([("is_turn", "is_turn", 34), ("check_relation", "check_relation", 35), ("_relates_a_variable", "_relates_a_variable", 36), ("_are_ascending_pairs", "_are_ascending_pairs", 37), ("_tells_each_once", "_tells_each_once", 38)] : List (Str × Str × Nat))
def clsL : List (Str × Nat × Str) := [("InvalidRelation", 3, "index")]
def dG (x y : Str) (i : Nat) : He.DefD := ⟨(x, none), y, y, defArgs (top i), defBody (top i), defScope (top i), [], []⟩
def dI (x : Str) (i : Nat) : He.DefD := ⟨(x, some "__init__"), "__init__", x ++ ".__init__", defArgs (inClass (top i) 0), defBody (inClass (top i) 0), defScope (inClass (top i) 0), [], []⟩
def fn : List He.DefD := (lawL.map fun p => dG p.1 p.1 p.2) ++ ((proL.map fun p => dG p.1 p.2.1 p.2.2) ++ clsL.map fun p => dI p.1 p.2.1)
def blL : List Str := ["int", "abs", "divmod", "len", "repr", "isinstance", "range", "tuple", "zip", "min", "max", "all", "list", "str", "bool", "enumerate", "sorted"]
def gloL : List Str := ["WORDS_BY_LENGTH", "VARIABLES", "SMALL_WORDS", "InvalidRelation"]
def intL : List (Str × Int) := [("DEEPEST", 100)]
def fa : List He.Fa := (lawL.map fun p => .glo p.1) ++ ((proL.map fun p => .glo p.1) ++ (gloL.map .glo ++ ((intL.map fun p => .int p.1 p.2) ++ blL.map .free)))
def wA (K : PySem.W.Frag) : Addr := He.ga K "WORDS_BY_LENGTH"
def dAt (K : PySem.W.Frag) (i : Nat) : Addr := match K.lookup (wA K) with
  | some ⟨_, _, .dict es _, _⟩ => (match es.toList[i]? with
    | some e => (match e.val with
      | .ref a => a
      | _ => 0)
    | none => 0)
  | _ => 0
def entB (K : PySem.W.Frag) (e : DictEntry) (k : Int) (i : Nat) : Bool := decide (e.hash = hashInt k) && (keyIs (.inl k) e.key && He.relB (.ref (dAt K i)) e.val)
def dictB (K : PySem.W.Frag) : Bool := match K.lookup (wA K) with
  | some ⟨.type c, none, .dict es _, sl⟩ => decide (c = "dict") && (decide (sl.size = 0) && (match es.toList with
    | [e1, e2, e3] => entB K e1 1 0 && (entB K e2 2 1 && entB K e3 3 2)
    | _ => false))
  | _ => false
def tupAt (K : PySem.W.Frag) (a : Addr) (vs : List V) : Bool := match K.lookup a with
  | some ⟨.type c, _, .seq its _, _⟩ => decide (c = "tuple") && (decide (its.size ≤ sizeLine) && He.relAll vs its.toList)
  | _ => false
def tuB (K : PySem.W.Frag) : Bool := tupAt K (dAt K 0) ((["unit", "num"] : List Str).map V.str) && (tupAt K (dAt K 1) ((["var", "list"] : List Str).map V.str) && (tupAt K (dAt K 2) ((["pair", "either", "fun"] : List Str).map V.str) && tupAt K (He.ga K "VARIABLES") (abc.map V.str)))
def noB (K : PySem.W.Frag) (x f : Str) : Bool := decide (PySem.W.findIn K (.ref (He.ga K x)) f = some none)
def inB (K : PySem.W.Frag) (x : Str) : Bool := decide (PySem.W.findIn K (.ref (He.ga K x)) "__init__" = some (some (.ref (He.ma K (He.ga K x) "__init__")))) && decide (PySem.W.typeIn K (.ref (He.ma K (He.ga K x) "__init__")) = some (.type "function"))
def exm (K : PySem.W.Frag) (x y : Str) (b : Bool) : Bool := decide (PySem.W.exmOne K (.ref (He.ga K x)) (.ref (He.ga K y)) = some b)
def clB (K : PySem.W.Frag) : Bool := (clsL.all fun p => oexB K (He.ga K p.1) && (iscB K (He.ga K p.1) && (noB K p.1 p.2.2 && inB K p.1))) && exm K "InvalidRelation" "InvalidRelation" true
def exB1 (K : PySem.W.Frag) : Bool := (K.lookup sysModules).isSome && (!(wA K == sysModules) && (dictB K && (tuB K && tupAt K (He.ga K "SMALL_WORDS") (smw.map V.str))))
end N3
namespace N3
open PySem PySem.Spec PyProof.Rows L2 KB
def refD (g : Addr → Option Obj) (a : Addr) : List Addr := match g a with
  | some o => He.refsD o
  | none => []
def clsNm : List Str := ["KindError", "InvalidRelation"]
def nmL : List Str := lawL.map (·.1) ++ (proL.map (·.1) ++ (gloL ++ (["KindError"] : List Str)))
def adS (g : Addr → Option Obj) (x : Str) : Addr := He.ga (He.frG g [mainGlobals]) x
def asS (g : Addr → Option Obj) : List Addr := sysModules :: mainGlobals :: ((nmL.map (adS g)) ++ ((nmL.flatMap fun x => refD g (adS g x)) ++ clsNm.flatMap fun x => ((refD g (adS g x)).flatMap (refD g)) ++ ((refD g (adS g x)).flatMap (refD g)).flatMap (refD g)))
def frHk (g : Addr → Option Obj) : PySem.W.Frag := He.frG g (asS g)
abbrev ObT : Type := He.AlD × (Bool × Bool)
def obsS (K : PySem.W.Frag) : ObT := (He.obsD fa fn K, (exB1 K, clB K))
def valS : ObT := (He.valD fn, (true, true))
def saysS (K : PySem.W.Frag) : Prop := obsS K = valS
def hk : PySem.W.Hook where
  α := ObT
  obs := fun s => obsS (frHk s.heap.get?)
  val := fun _ => valS
  says := fun _ h => ∃ K : PySem.W.Frag, K.In h ∧ saysS K
  of := fun _ _ e => ⟨_, He.frG_in, e⟩
  keeps := fun _ _ _ ⟨K, hK, c⟩ kp => ⟨K, PySem.W.Frag.In.keeps hK kp, c⟩
abbrev R : PySem.W.OpenRow := PySem.W.OpenLaw.row PySem.Challenge.rw_bykindalone_k30_relations_of_anything
def ob (s : PySem.W.SharedT) : hk.α := obsS (frHk (HandSHeadRun.getT s))
theorem ob_eq (s : PySem.W.SharedT) : ob s = hk.obs s.abs := by
  have e : HandSHeadRun.getT s = s.abs.heap.get? := funext (HandSHeadRun.getT_eq s)
  unfold ob
  rw [e] <;> rfl
def loose : List Str := (["_law_well", "_law_dip", "_law_pick", "_law_is", "_law_truth", "_law_names", "_law_number", "_law_closed", "_law_form", "_law_worth", "_law_key", "_law_rising", "_law_rows", "_law_link", "_law_odd", "_law_bent", "_law_is_whole", "_law_is_closed", "_law_has", "_law_is_row"] : List Str) ++ (["_law_is_link", "_law_is_single", "_law_is_tried", "_law_tower", "_law_thing", "_law_holds", "_law_right", "_are_ascending_pairs", "_check_kind", "_has_form", "_is_kind_without", "_parts_below", "_parts_with_levels", "_relates_a_variable", "_stands_under", "_tells_each_once", "_told_parts", "both_fillings", "check_relation", "fillings"] : List Str) ++ (["has_form_kinds", "has_form_values", "is_closed_kind", "is_data_kind", "is_number", "is_relation", "is_small_kind", "is_text_of", "is_tried", "is_tried_kind", "is_turn", "is_value", "parts_of_kind", "KindError", "InvalidKind", "InvalidRelation", "DEEPEST", "SMALL_WORDS", "VARIABLES", "WORDS_BY_LENGTH"] : List Str) ++ (["__name__"] : List Str)
end N3
namespace N3
open PySem PySem.Spec PyProof.Rows L2 KB
open PySem.W PySem.Calls HandSHeadRun in
theorem runA_t (w : World) (os : OsState) : (endF (stepQ (denQ tabQ) R.prog (w.withFollow "special-get-raises" true)) 30000 R.prog (w.withFollow "special-get-raises" true) os).map (fun s => looksF R.prog (boot_heap (w.withFollow "special-get-raises" true).params) s.abs) = some (true) := by kernel_rfl
end N3
namespace N3
open PySem PySem.Spec PyProof.Rows L2 KB
open PySem.W PySem.Calls HandSHeadRun in
theorem runE_t (w : World) (os : OsState) : (endF (stepQ (denQ tabQ) R.prog (w.withFollow "special-get-raises" true)) 30000 R.prog (w.withFollow "special-get-raises" true) os).map (fun s => seenQ (PySem.W.view R.prog [67]) loose (importedModules R.prog.main.body) (fun s => xlAt (PySem.W.view R.prog [67]) [] s && recOk R.toRowW.records s) s.abs) = some (openGood (PySem.W.view R.prog [67]) loose) := by kernel_rfl
end N3
namespace N3
open PySem PySem.Spec PyProof.Rows L2 KB
open PySem.W PySem.Calls HandSHeadRun in
theorem runB_t (w : World) (os : OsState) : (endF (stepQ (denQ tabQ) R.prog (w.withFollow "special-get-raises" true)) 30000 R.prog (w.withFollow "special-get-raises" true) os).map (fun s => He.obsD fa fn (frHk (getT s))) = some (He.valD fn) := by kernel_rfl
end N3
namespace N3
open PySem PySem.Spec PyProof.Rows L2 KB
open PySem.W PySem.Calls HandSHeadRun in
theorem runC_t (w : World) (os : OsState) : (endF (stepQ (denQ tabQ) R.prog (w.withFollow "special-get-raises" true)) 30000 R.prog (w.withFollow "special-get-raises" true) os).map (fun s => (exB1 (frHk (getT s)), clB (frHk (getT s)))) = some ((true, true)) := by kernel_rfl
end N3
namespace N3
open PySem PySem.Spec PyProof.Rows L2 KB
open PySem.W PySem.Calls HandSHeadRun in
theorem runA_f (w : World) (os : OsState) : (endF (stepQ (denQ tabQ) R.prog (w.withFollow "special-get-raises" false)) 30000 R.prog (w.withFollow "special-get-raises" false) os).map (fun s => looksF R.prog (boot_heap (w.withFollow "special-get-raises" false).params) s.abs) = some (true) := by kernel_rfl
end N3
namespace N3
open PySem PySem.Spec PyProof.Rows L2 KB
open PySem.W PySem.Calls HandSHeadRun in
theorem runE_f (w : World) (os : OsState) : (endF (stepQ (denQ tabQ) R.prog (w.withFollow "special-get-raises" false)) 30000 R.prog (w.withFollow "special-get-raises" false) os).map (fun s => seenQ (PySem.W.view R.prog [67]) loose (importedModules R.prog.main.body) (fun s => xlAt (PySem.W.view R.prog [67]) [] s && recOk R.toRowW.records s) s.abs) = some (openGood (PySem.W.view R.prog [67]) loose) := by kernel_rfl
end N3
namespace N3
open PySem PySem.Spec PyProof.Rows L2 KB
open PySem.W PySem.Calls HandSHeadRun in
theorem runB_f (w : World) (os : OsState) : (endF (stepQ (denQ tabQ) R.prog (w.withFollow "special-get-raises" false)) 30000 R.prog (w.withFollow "special-get-raises" false) os).map (fun s => He.obsD fa fn (frHk (getT s))) = some (He.valD fn) := by kernel_rfl
end N3
namespace N3
open PySem PySem.Spec PyProof.Rows L2 KB
open PySem.W PySem.Calls HandSHeadRun in
theorem runC_f (w : World) (os : OsState) : (endF (stepQ (denQ tabQ) R.prog (w.withFollow "special-get-raises" false)) 30000 R.prog (w.withFollow "special-get-raises" false) os).map (fun s => (exB1 (frHk (getT s)), clB (frHk (getT s)))) = some ((true, true)) := by kernel_rfl
end N3
namespace N3
open PySem PySem.Spec PyProof.Rows L2 KB
theorem comb {S A E B C : Type} {o : Option S} {a : S → A} {e : S → E} {b : S → B} {c : S → C} {x : A} {y : E} {p : B} {q : C} (h1 : o.map a = some x) (h2 : o.map e = some y) (h3 : o.map b = some p) (h4 : o.map c = some q) : o.map (fun s => (a s, e s, (b s, c s))) = some (x, y, (p, q)) := by
  cases o with
  | none => cases h1
  | some s =>
    have h1 : a s = x := Option.some.inj h1
    have h2 : e s = y := Option.some.inj h2
    have h3 : b s = p := Option.some.inj h3
    have h4 : c s = q := Option.some.inj h4
    show some (a s, e s, (b s, c s)) = some (x, y, (p, q))
    rw [h1, h2, h3, h4]
theorem run_by (w : World) : ∀ b : Bool, HandSHeadRun.RunEq R (PySem.W.view R.prog [67]) hk ob 30000 loose (w.withFollow "special-get-raises" b)
  | true => fun os => comb (runA_t w os) (runE_t w os) (runB_t w os) (runC_t w os)
  | false => fun os => comb (runA_f w os) (runE_f w os) (runB_f w os) (runC_f w os)
theorem run (w : World) : HandSHeadRun.RunEq R (PySem.W.view R.prog [67]) hk ob 30000 loose w := by
  have := run_by w (w.params.followText "special-get-raises")
  (rwa [World.withFollow_self] at this)
theorem tupAt_ok {K : PySem.W.Frag} {a : Addr} {vs : List V} (h : tupAt K a vs = true) (H : Hp) : SqT K H a vs := by
  unfold tupAt at h
  cases q : K.lookup a with
  | none =>
    rw [q] at h
    cases h
  | some o =>
    obtain ⟨oc, od, dt, osl⟩ := o
    rw [q] at h
    cases oc with
    | type c =>
      cases dt with
      | seq its n =>
        obtain ⟨h1, h2⟩ := He.ba (show (decide (c = "tuple") && (decide (its.size ≤ sizeLine) && He.relAll vs its.toList)) = true from h)
        obtain ⟨h3, h4⟩ := He.ba h2
        exact .inr ⟨_, its, n, q, congrArg Value.type (of_decide_eq_true h1), rfl, of_decide_eq_true h3, He.relAll_ok h4⟩
      | _ => cases h
    | _ => cases dt <;> cases h
theorem entB_ok {P : Program} {w : World} {K : PySem.W.Frag} {e : DictEntry} {k : Int} {i : Nat} (h : entB K e k i = true) : e.hash = (mixKind P w).hash (.inl k) ∧ (mixKind P w).is (.inl k) e.key = true ∧ e.val = .ref (dAt K i) := by
  obtain ⟨h1, h2⟩ := He.ba h
  obtain ⟨h3, h4⟩ := He.ba h2
  exact ⟨of_decide_eq_true h1, h3, He.relB_ok h4⟩
theorem dictB_ok {P : Program} {w : World} {K : PySem.W.Frag} (hs : (wA K == sysModules) = false) (h : dictB K = true) : KI P w K (wA K) [(.inl 1, .ref (dAt K 0)), (.inl 2, .ref (dAt K 1)), (.inl 3, .ref (dAt K 2))] := by
  unfold dictB at h
  cases q : K.lookup (wA K) with
  | none =>
    rw [q] at h
    cases h
  | some o =>
    obtain ⟨oc, od, dt, osl⟩ := o
    rw [q] at h
    cases oc with
    | type c =>
      cases od with
      | some d => (cases dt <;> cases h)
      | none =>
        cases dt with
        | dict es n =>
          obtain ⟨h1, h2⟩ := He.ba (show (decide (c = "dict") && (decide (osl.size = 0) && (match es.toList with
            | [e1, e2, e3] => entB K e1 1 0 && (entB K e2 2 1 && entB K e3 3 2)
            | _ => false))) = true from h)
          obtain ⟨h3, h4⟩ := He.ba h2
          have ec : c = "dict" := of_decide_eq_true h1
          have esl : osl = #[] := Array.eq_empty_of_size_eq_zero (of_decide_eq_true h3)
          subst ec esl
          obtain ⟨e1, e2, e3, el⟩ : ∃ e1 e2 e3, es.toList = [e1, e2, e3] := by
            rcases el : es.toList with _ | ⟨e1, _ | ⟨e2, _ | ⟨e3, _ | ⟨e4, r⟩⟩⟩⟩
            · rw [el] at h4; cases h4
            · rw [el] at h4; cases h4
            · rw [el] at h4; cases h4
            · exact ⟨e1, e2, e3, rfl⟩
            · rw [el] at h4; cases h4
          rw [el] at h4
          obtain ⟨h5, h6⟩ := He.ba (show (entB K e1 1 0 && (entB K e2 2 1 && entB K e3 3 2)) = true from h4)
          obtain ⟨h7, h8⟩ := He.ba h6
          obtain ⟨a1, a2, a3⟩ := entB_ok (P := P) (w := w) h5
          obtain ⟨b1, b2, b3⟩ := entB_ok (P := P) (w := w) h7
          obtain ⟨c1, c2, c3⟩ := entB_ok (P := P) (w := w) h8
          refine ⟨hs, [(.inl 1, .ref (dAt K 0)), (.inl 2, .ref (dAt K 1)), (.inl 3, .ref (dAt K 2))], .cons ⟨rfl, rfl⟩ (.cons ⟨rfl, rfl⟩ (.cons ⟨rfl, rfl⟩ .nil)), fun hp hK => ⟨_, es, n, hK _ _ q, ⟨rfl, rfl, rfl⟩, rfl, fun e he => ?_, ?_, by show ([Sum.inl 1, Sum.inl 2, Sum.inl 3] : List L2.Key).Nodup; decide⟩⟩
          · have m : e ∈ es.toList := Array.mem_toList_iff.mpr he
            rw [el] at m
            simp only [List.mem_cons, List.not_mem_nil, or_false] at m
            rcases m with rfl | rfl | rfl
            · exact ⟨_, a2, a1⟩
            · exact ⟨_, b2, b1⟩
            · exact ⟨_, c2, c1⟩
          · rw [el]
            exact .cons a2 a3 (.cons b2 b3 (.cons c2 c3 .nil))
        | _ => cases h
    | _ => (cases od <;> cases dt <;> cases h)
section
variable {P : Program} {w : World} {K : PySem.W.Frag} {h : Heap} {mg : Str → Option Value} {base : Heap}
structure Top (P : Program) (w : World) (K : PySem.W.Frag) (mg : Str → Option Value) : Prop where
  bl : Bl K mg
  fr : ∀ x, blL.contains x = true → mg x = none
  pf : ∃ tk, Pf P w K mg (wA K) (dAt K 0) (dAt K 1) (dAt K 2) (He.ga K "VARIABLES") tk
  hV : ∀ H, SqT K H (He.ga K "VARIABLES") (abc.map V.str)
  hSm : ∀ H, SqT K H (He.ga K "SMALL_WORDS") (smw.map V.str)
  glo : ∀ x ∈ gloL, mg x = some (.ref (He.ga K x))
  cl : clB K = true
  lawg : ∀ p ∈ lawL, mg p.1 = some (.ref (He.ga K p.1)) ∧ ∃ fd, FnP K p.1 (top p.2) (He.ga K p.1) fd
  prog : ∀ p ∈ proL, mg p.1 = some (.ref (He.ga K p.1)) ∧ ∃ fd, FnP K p.2.1 (top p.2.2) (He.ga K p.1) fd
  inid : ∀ p ∈ clsL, ∃ fd, FunD K "__init__" (p.1 ++ ".__init__") (defArgs (inClass (top p.2.1) 0)) (defBody (inClass (top p.2.1) 0)) (defScope (inClass (top p.2.1) 0)) [] [] (He.ma K (He.ga K p.1) "__init__") fd
theorem top_of (X : K.In h) (G : h.Ns mainGlobals mg) (c : saysS K) : Top P w K mg := by
  have c1 : He.SaysD fa fn K := congrArg (fun z : ObT => z.1) c
  have d1 : exB1 K = true := congrArg (fun z : ObT => z.2.1) c
  have d3 : clB K = true := congrArg (fun z : ObT => z.2.2) c
  have fact : ∀ f : He.Fa, f ∈ fa → f.ok K = true := fun f hf => by
    obtain ⟨i, hi⟩ := List.getElem?_of_mem hf
    exact c1.fact i hi
  have free : ∀ x, x ∈ blL → mg x = none := fun x hx => He.free_ok X G (fact (.free x) (by unfold fa; simp only [List.mem_append, List.mem_map]; exact .inr (.inr (.inr (.inr ⟨x, hx, rfl⟩)))))
  have bl : ∀ x, blL.contains x = true → mg x = none := fun x hx => free x (List.contains_iff_mem.mp hx)
  have glo : ∀ x, He.Fa.glo x ∈ fa → mg x = some (.ref (He.ga K x)) := fun x hx => He.glo_ok X G (fact _ hx)
  have gloG : ∀ x ∈ gloL, mg x = some (.ref (He.ga K x)) := fun x hx => glo x (by unfold fa; simp only [List.mem_append, List.mem_map]; exact .inr (.inr (.inl ⟨x, hx, rfl⟩)))
  have gi : ∀ p ∈ intL, ∃ t, mg p.1 = some (.int p.2 t) := fun p hp => He.int_ok X G (fact (.int p.1 p.2) (by unfold fa; simp only [List.mem_append, List.mem_map]; exact .inr (.inr (.inr (.inl ⟨p, hp, rfl⟩)))))
  obtain ⟨e1, e2⟩ := He.ba (show ((K.lookup sysModules).isSome && (!(wA K == sysModules) && (dictB K && (tuB K && tupAt K (He.ga K "SMALL_WORDS") (smw.map V.str))))) = true from d1)
  obtain ⟨e3, e4⟩ := He.ba e2
  obtain ⟨e5, e6⟩ := He.ba e4
  obtain ⟨e7, e8⟩ := He.ba e6
  obtain ⟨t1, t2⟩ := He.ba e7
  obtain ⟨t3, t4⟩ := He.ba t2
  obtain ⟨t5, t6⟩ := He.ba t4
  have low : (wA K == sysModules) = false := by simpa using e3
  have gW : mg "WORDS_BY_LENGTH" = some (.ref (wA K)) := gloG "WORDS_BY_LENGTH" (by decide +kernel)
  obtain ⟨tk, hD⟩ := gi ("DEEPEST", 100) (by decide +kernel)
  refine ⟨⟨Option.isSome_iff_exists.mp e1, bl _ (by decide +kernel), bl _ (by decide +kernel), bl _ (by decide +kernel), bl _ (by decide +kernel), bl _ (by decide +kernel), bl _ (by decide +kernel), bl _ (by decide +kernel), bl _ (by decide +kernel), bl _ (by decide +kernel), bl _ (by decide +kernel), bl _ (by decide +kernel), bl _ (by decide +kernel), bl _ (by decide +kernel), bl _ (by decide +kernel), bl _ (by decide +kernel)⟩, bl,
    ⟨tk, ⟨gW, dictB_ok low e5, fun H => tupAt_ok t1 H, fun H => tupAt_ok t3 H, fun H => tupAt_ok t5 H, gloG "VARIABLES" (by decide +kernel), hD⟩⟩, fun H => tupAt_ok t6 H, fun H => tupAt_ok e8 H, gloG, d3, fun p hp => ⟨?_, ?_⟩, fun p hp => ⟨?_, ?_⟩, fun p hp => ?_⟩
  · exact glo p.1 (by unfold fa; simp only [List.mem_append, List.mem_map]; exact .inl ⟨p, hp, rfl⟩)
  · obtain ⟨i, hi⟩ := List.getElem?_of_mem (show dG p.1 p.1 p.2 ∈ fn from List.mem_append_left _ (List.mem_map.mpr ⟨p, hp, rfl⟩))
    obtain ⟨fd, F⟩ := c1.def_ i hi
    exact ⟨fd, F⟩
  · exact glo p.1 (by unfold fa; simp only [List.mem_append, List.mem_map]; exact .inr (.inl ⟨p, hp, rfl⟩))
  · obtain ⟨i, hi⟩ := List.getElem?_of_mem (show dG p.1 p.2.1 p.2.2 ∈ fn from List.mem_append_right _ (List.mem_append_left _ (List.mem_map.mpr ⟨p, hp, rfl⟩)))
    obtain ⟨fd, F⟩ := c1.def_ i hi
    exact ⟨fd, F⟩
  · obtain ⟨i, hi⟩ := List.getElem?_of_mem (show dI p.1 p.2.1 ∈ fn from List.mem_append_right _ (List.mem_append_right _ (List.mem_map.mpr ⟨p, hp, rfl⟩)))
    obtain ⟨fd, F⟩ := c1.def_ i hi
    exact ⟨fd, F⟩
end
end N3
namespace N3
open PySem PySem.Spec PyProof.Rows L2 KB
section
variable {P : Program} {w : World} {K : PySem.W.Frag} {h : Heap} {mg : Str → Option Value} {base : Heap}
theorem Top.law_ (T : Top P w K mg) (x : Str) (i : Nat) (h : lawL.contains (x, i) = true) : ∃ fd, FnP K x (top i) (He.ga K x) fd ∧ mg x = some (.ref (He.ga K x)) := by
  obtain ⟨a, fd, F⟩ := T.lawg _ (List.contains_iff_mem.mp h)
  exact ⟨fd, F, a⟩
theorem Top.pro_ (T : Top P w K mg) (x y : Str) (i : Nat) (h : proL.contains (x, y, i) = true) : ∃ fd, FnP K y (top i) (He.ga K x) fd ∧ mg x = some (.ref (He.ga K x)) := by
  obtain ⟨a, fd, F⟩ := T.prog _ (List.contains_iff_mem.mp h)
  exact ⟨fd, F, a⟩
theorem Top.cls_ (T : Top P w K mg) (p : Str × Nat × Str) (hp : p ∈ clsL) : OexC K (He.ga K p.1) ∧ IsC K (He.ga K p.1) ∧ PySem.W.findIn K (.ref (He.ga K p.1)) p.2.2 = some none ∧
    PySem.W.findIn K (.ref (He.ga K p.1)) "__init__" = some (some (.ref (He.ma K (He.ga K p.1) "__init__"))) ∧ PySem.W.typeIn K (.ref (He.ma K (He.ga K p.1) "__init__")) = some (.type "function") := by
  obtain ⟨h1, _⟩ := He.ba T.cl
  obtain ⟨h2, h3⟩ := He.ba (List.all_eq_true.mp h1 p hp)
  obtain ⟨h4, h5⟩ := He.ba h3
  obtain ⟨h6, h7⟩ := He.ba h5
  obtain ⟨h8, h9⟩ := He.ba h7
  exact ⟨oexB_ok h2, iscB_ok h4, of_decide_eq_true h6, of_decide_eq_true h8, of_decide_eq_true h9⟩
theorem err_InvalidRelation (T : Top P w K mg) : ErrC P w K mg base "InvalidRelation" (He.ga K "InvalidRelation") ["index"] := by
  obtain ⟨fd, F⟩ := T.inid ("InvalidRelation", 3, "index") (by decide +kernel)
  have S : FnScope ["self", "index"] ["self", "index"] (defScope (inClass (top 3) 0)) := ⟨rfl, rfl, rfl, by decide +kernel, rfl, by decide +kernel, by decide +kernel⟩
  obtain ⟨O, _, N, I1, I2⟩ := T.cls_ ("InvalidRelation", 3, "index") (by decide +kernel)
  refine ⟨T.glo _ (by decide +kernel), O, _, fd, I1, I2, ini1 F S O N (by decide +kernel) (by decide +kernel), FunD.bindsN F fun _ _ _ _ _ _ us hl => match us, hl with | [_, _], _ => rfl, fun s u ws hl => ?_⟩
  (obtain ⟨oc, od, dV, kV, doc, pm, an, cdv, ct, osl, rfl, lk, hcd, hD, hK⟩ := F.ex)
  (rcases hD with ⟨_, rfl⟩ | ⟨e, _⟩)
  · match ws, hl with
    | [_], _ => exact ⟨.of_eq (by rfl), .of_eq (by rfl)⟩
  · exact absurd rfl e
theorem vals_app3 {vs : List V} {us : List Value} {zs : List V} {ws : List Value} (r : Vals vs us) (q : Vals zs ws) : Vals (vs ++ zs) (us ++ ws) := by
  induction r with
  | nil => exact q
  | cons a _ ih => exact .cons a ih
theorem kbIsRel {f : Addr} {fd : FuncData} (F : FnP K "is_relation" (top 31) f fd) : KBinds K fd ["value"] ["value"] (fun us ws => us ++ ws) (fun vs zs => vs ++ zs) :=
  kb_of F (fun _ _ _ _ _ _ us ws hl => match us, ws, hl with
    | [], [_], _ => rfl
    | [_], [], _ => rfl
    | [], [], hl => nomatch hl
    | [], _ :: _ :: _, hl => nomatch hl
    | [_], _ :: _, hl => nomatch hl
    | _ :: _ :: _, _, hl => nomatch hl) fun r q => vals_app3 r q
theorem kbIsTurn {f : Addr} {fd : FuncData} (F : FnP K "is_turn" (top 34) f fd) : KBinds K fd ["value"] ["value"] (fun us ws => us ++ ws) (fun vs zs => vs ++ zs) :=
  kb_of F (fun _ _ _ _ _ _ us ws hl => match us, ws, hl with
    | [], [_], _ => rfl
    | [_], [], _ => rfl
    | [], [], hl => nomatch hl
    | [], _ :: _ :: _, hl => nomatch hl
    | [_], _ :: _, hl => nomatch hl
    | _ :: _ :: _, _, hl => nomatch hl) fun r q => vals_app3 r q
theorem kbFill {f : Addr} {fd : FuncData} (F : FnP K "fillings" (top 32) f fd) : KBinds K fd ["relation"] ["relation"] (fun us ws => us ++ ws) (fun vs zs => vs ++ zs) :=
  kb_of F (fun _ _ _ _ _ _ us ws hl => match us, ws, hl with
    | [], [_], _ => rfl
    | [_], [], _ => rfl
    | [], [], hl => nomatch hl
    | [], _ :: _ :: _, hl => nomatch hl
    | [_], _ :: _, hl => nomatch hl
    | _ :: _ :: _, _, hl => nomatch hl) fun r q => vals_app3 r q
theorem kbIsTried {f : Addr} {fd : FuncData} (F : FnP K "is_tried" (top 33) f fd) : KBinds K fd ["kind"] ["kind"] (fun us ws => us ++ ws) (fun vs zs => vs ++ zs) :=
  kb_of F (fun _ _ _ _ _ _ us ws hl => match us, ws, hl with
    | [], [_], _ => rfl
    | [_], [], _ => rfl
    | [], [], hl => nomatch hl
    | [], _ :: _ :: _, hl => nomatch hl
    | [_], _ :: _, hl => nomatch hl
    | _ :: _ :: _, _, hl => nomatch hl) fun r q => vals_app3 r q
theorem law_all (T : Top P w K mg) : ∃ fd : FuncData, (∀ (s : Shared) (v : Value), BindsTo s fd ⟨[v], []⟩ [("_law_script", v)]) ∧ ∀ base : Heap, FnG P w K mg base 107 (He.ga K "law") fd ["_law_script"] (spLaw K) := by
  have B := T.bl
  have hEn := T.fr "enumerate" (by decide +kernel)
  have hsd := T.fr "sorted" (by decide +kernel)
  obtain ⟨tk, pf⟩ := T.pf
  obtain ⟨fdLwLWell, FLwLWell, gLwLWell⟩ := T.law_ "_law_well" 40 (by decide +kernel)
  obtain ⟨fdLwLDip, FLwLDip, gLwLDip⟩ := T.law_ "_law_dip" 41 (by decide +kernel)
  obtain ⟨fdLwLPick, FLwLPick, gLwLPick⟩ := T.law_ "_law_pick" 42 (by decide +kernel)
  obtain ⟨fdLwLIs, FLwLIs, gLwLIs⟩ := T.law_ "_law_is" 43 (by decide +kernel)
  obtain ⟨fdLwLTruth, FLwLTruth, gLwLTruth⟩ := T.law_ "_law_truth" 44 (by decide +kernel)
  obtain ⟨fdLwLNames, FLwLNames, gLwLNames⟩ := T.law_ "_law_names" 45 (by decide +kernel)
  obtain ⟨fdLwLNumber, FLwLNumber, gLwLNumber⟩ := T.law_ "_law_number" 46 (by decide +kernel)
  obtain ⟨fdLwLClosed, FLwLClosed, gLwLClosed⟩ := T.law_ "_law_closed" 47 (by decide +kernel)
  obtain ⟨fdLwLForm, FLwLForm, gLwLForm⟩ := T.law_ "_law_form" 48 (by decide +kernel)
  obtain ⟨fdLwLWorth, FLwLWorth, gLwLWorth⟩ := T.law_ "_law_worth" 49 (by decide +kernel)
  obtain ⟨fdLwLKey, FLwLKey, gLwLKey⟩ := T.law_ "_law_key" 50 (by decide +kernel)
  obtain ⟨fdLwLRising, FLwLRising, gLwLRising⟩ := T.law_ "_law_rising" 51 (by decide +kernel)
  obtain ⟨fdLwLRows, FLwLRows, gLwLRows⟩ := T.law_ "_law_rows" 52 (by decide +kernel)
  obtain ⟨fdLwLLink, FLwLLink, gLwLLink⟩ := T.law_ "_law_link" 53 (by decide +kernel)
  obtain ⟨fdLwLOdd, FLwLOdd, gLwLOdd⟩ := T.law_ "_law_odd" 54 (by decide +kernel)
  obtain ⟨fdLwLBent, FLwLBent, gLwLBent⟩ := T.law_ "_law_bent" 55 (by decide +kernel)
  obtain ⟨fdLwLIsWhole, FLwLIsWhole, gLwLIsWhole⟩ := T.law_ "_law_is_whole" 56 (by decide +kernel)
  obtain ⟨fdLwLIsClosed, FLwLIsClosed, gLwLIsClosed⟩ := T.law_ "_law_is_closed" 57 (by decide +kernel)
  obtain ⟨fdLwLHas, FLwLHas, gLwLHas⟩ := T.law_ "_law_has" 58 (by decide +kernel)
  obtain ⟨fdLwLIsRow, FLwLIsRow, gLwLIsRow⟩ := T.law_ "_law_is_row" 59 (by decide +kernel)
  obtain ⟨fdLwLIsLink, FLwLIsLink, gLwLIsLink⟩ := T.law_ "_law_is_link" 60 (by decide +kernel)
  obtain ⟨fdLwLIsSingle, FLwLIsSingle, gLwLIsSingle⟩ := T.law_ "_law_is_single" 61 (by decide +kernel)
  obtain ⟨fdLwLIsTried, FLwLIsTried, gLwLIsTried⟩ := T.law_ "_law_is_tried" 62 (by decide +kernel)
  obtain ⟨fdLwLTower, FLwLTower, gLwLTower⟩ := T.law_ "_law_tower" 63 (by decide +kernel)
  obtain ⟨fdLwLThing, FLwLThing, gLwLThing⟩ := T.law_ "_law_thing" 64 (by decide +kernel)
  obtain ⟨fdLwLHolds, FLwLHolds, gLwLHolds⟩ := T.law_ "_law_holds" 65 (by decide +kernel)
  obtain ⟨fdLwLRight, FLwLRight, gLwLRight⟩ := T.law_ "_law_right" 66 (by decide +kernel)
  obtain ⟨fdLwLaw, FLwLaw, gLwLaw⟩ := T.law_ "law" 67 (by decide +kernel)
  obtain ⟨fdPrIsDataKind, FPrIsDataKind, gPrIsDataKind⟩ := T.pro_ "is_data_kind" "is_data_kind" 8 (by decide +kernel)
  obtain ⟨fdPrIsClosedKind, FPrIsClosedKind, gPrIsClosedKind⟩ := T.pro_ "is_closed_kind" "is_closed_kind" 9 (by decide +kernel)
  obtain ⟨fdPrPartsOfKind, FPrPartsOfKind, gPrPartsOfKind⟩ := T.pro_ "parts_of_kind" "parts_of_kind" 10 (by decide +kernel)
  obtain ⟨fdPrIsTextOf, FPrIsTextOf, gPrIsTextOf⟩ := T.pro_ "is_text_of" "is_text_of" 11 (by decide +kernel)
  obtain ⟨fdPrIsKindWithout, FPrIsKindWithout, gPrIsKindWithout⟩ := T.pro_ "_is_kind_without" "_is_kind_without" 12 (by decide +kernel)
  obtain ⟨fdPrToldParts, FPrToldParts, gPrToldParts⟩ := T.pro_ "_told_parts" "_told_parts" 13 (by decide +kernel)
  obtain ⟨fdPrPartsWithLevels, FPrPartsWithLevels, gPrPartsWithLevels⟩ := T.pro_ "_parts_with_levels" "_parts_with_levels" 14 (by decide +kernel)
  obtain ⟨fdPrHasFormKinds, FPrHasFormKinds, gPrHasFormKinds⟩ := T.pro_ "has_form_kinds" "_has_form" 15 (by decide +kernel)
  obtain ⟨fdPrIsValue, FPrIsValue, gPrIsValue⟩ := T.pro_ "is_value" "is_value" 18 (by decide +kernel)
  obtain ⟨fdPrIsNumber, FPrIsNumber, gPrIsNumber⟩ := T.pro_ "is_number" "is_number" 19 (by decide +kernel)
  obtain ⟨fdPrCheckKind, FPrCheckKind, gPrCheckKind⟩ := T.pro_ "_check_kind" "_check_kind" 20 (by decide +kernel)
  obtain ⟨fdPrStandsUnder, FPrStandsUnder, gPrStandsUnder⟩ := T.pro_ "_stands_under" "_stands_under" 21 (by decide +kernel)
  obtain ⟨fdPrHasFormValues, FPrHasFormValues, gPrHasFormValues⟩ := T.pro_ "has_form_values" "_has_form" 22 (by decide +kernel)
  obtain ⟨fdPrPartsBelow, FPrPartsBelow, gPrPartsBelow⟩ := T.pro_ "_parts_below" "_parts_below" 24 (by decide +kernel)
  obtain ⟨fdPrIsSmallKind, FPrIsSmallKind, gPrIsSmallKind⟩ := T.pro_ "is_small_kind" "is_small_kind" 27 (by decide +kernel)
  obtain ⟨fdPrIsTriedKind, FPrIsTriedKind, gPrIsTriedKind⟩ := T.pro_ "is_tried_kind" "is_tried_kind" 28 (by decide +kernel)
  obtain ⟨fdPrBothFillings, FPrBothFillings, gPrBothFillings⟩ := T.pro_ "both_fillings" "both_fillings" 29 (by decide +kernel)
  obtain ⟨fdPrIsRelation, FPrIsRelation, gPrIsRelation⟩ := T.pro_ "is_relation" "is_relation" 31 (by decide +kernel)
  obtain ⟨fdPrFillings, FPrFillings, gPrFillings⟩ := T.pro_ "fillings" "fillings" 32 (by decide +kernel)
  obtain ⟨fdPrIsTried, FPrIsTried, gPrIsTried⟩ := T.pro_ "is_tried" "is_tried" 33 (by decide +kernel)
  obtain ⟨fdPrIsTurn, FPrIsTurn, gPrIsTurn⟩ := T.pro_ "is_turn" "is_turn" 34 (by decide +kernel)
  obtain ⟨fdPrCheckRelation, FPrCheckRelation, gPrCheckRelation⟩ := T.pro_ "check_relation" "check_relation" 35 (by decide +kernel)
  obtain ⟨fdPrRelatesAVariable, FPrRelatesAVariable, gPrRelatesAVariable⟩ := T.pro_ "_relates_a_variable" "_relates_a_variable" 36 (by decide +kernel)
  obtain ⟨fdPrAreAscendingPairs, FPrAreAscendingPairs, gPrAreAscendingPairs⟩ := T.pro_ "_are_ascending_pairs" "_are_ascending_pairs" 37 (by decide +kernel)
  obtain ⟨fdPrTellsEachOnce, FPrTellsEachOnce, gPrTellsEachOnce⟩ := T.pro_ "_tells_each_once" "_tells_each_once" 38 (by decide +kernel)
  have bLwLWell : Binds K fdLwLWell ["_law_script", "_law_turn"] [] := FLwLWell.bindsN fun _ _ _ _ _ _ us hl => match us, hl with | [_, _], _ => rfl
  have bLwLDip : Binds K fdLwLDip ["_law_well_here", "_law_top"] [] := FLwLDip.bindsN fun _ _ _ _ _ _ us hl => match us, hl with | [_, _], _ => rfl
  have bLwLPick : Binds K fdLwLPick ["_law_well_here", "_law_some"] [] := FLwLPick.bindsN fun _ _ _ _ _ _ us hl => match us, hl with | [_, _], _ => rfl
  have bLwLIs : Binds K fdLwLIs ["_law_gave", "_law_due"] [] := FLwLIs.bindsN fun _ _ _ _ _ _ us hl => match us, hl with | [_, _], _ => rfl
  have bLwLTruth : Binds K fdLwLTruth [] [] := FLwLTruth.bindsN fun _ _ _ _ _ _ us hl => match us, hl with | [], _ => rfl
  have bLwLNames : Binds K fdLwLNames ["_law_well_here"] [] := FLwLNames.bindsN fun _ _ _ _ _ _ us hl => match us, hl with | [_], _ => rfl
  have bLwLNumber : Binds K fdLwLNumber ["_law_well_here"] [] := FLwLNumber.bindsN fun _ _ _ _ _ _ us hl => match us, hl with | [_], _ => rfl
  have bLwLClosed : Binds K fdLwLClosed ["_law_well_here", "_law_left"] [] := FLwLClosed.bindsN fun _ _ _ _ _ _ us hl => match us, hl with | [_, _], _ => rfl
  have bLwLForm : Binds K fdLwLForm ["_law_well_here", "_law_left", "_law_names_here", "_law_lot"] [] := FLwLForm.bindsN fun _ _ _ _ _ _ us hl => match us, hl with | [_, _, _, _], _ => rfl
  have bLwLWorth : Binds K fdLwLWorth ["_law_well_here", "_law_form_here"] [] := FLwLWorth.bindsN fun _ _ _ _ _ _ us hl => match us, hl with | [_, _], _ => rfl
  have bLwLKey : Binds K fdLwLKey ["_law_form_here", "_law_worth_here"] [] := FLwLKey.bindsN fun _ _ _ _ _ _ us hl => match us, hl with | [_, _], _ => rfl
  have bLwLRising : Binds K fdLwLRising ["_law_fronts", "_law_backs", "_law_some"] [] := FLwLRising.bindsN fun _ _ _ _ _ _ us hl => match us, hl with | [_, _, _], _ => rfl
  have bLwLRows : Binds K fdLwLRows ["_law_well_here", "_law_fronts", "_law_backs", "_law_many"] [] := FLwLRows.bindsN fun _ _ _ _ _ _ us hl => match us, hl with | [_, _, _, _], _ => rfl
  have bLwLLink : Binds K fdLwLLink ["_law_well_here", "_law_names_here", "_law_left"] [] := FLwLLink.bindsN fun _ _ _ _ _ _ us hl => match us, hl with | [_, _, _], _ => rfl
  have bLwLOdd : Binds K fdLwLOdd ["_law_well_here"] [] := FLwLOdd.bindsN fun _ _ _ _ _ _ us hl => match us, hl with | [_], _ => rfl
  have bLwLBent : Binds K fdLwLBent ["_law_well_here", "_law_thing_here", "_law_left"] [] := FLwLBent.bindsN fun _ _ _ _ _ _ us hl => match us, hl with | [_, _, _], _ => rfl
  have bLwLIsWhole : Binds K fdLwLIsWhole ["_law_thing_here"] [] := FLwLIsWhole.bindsN fun _ _ _ _ _ _ us hl => match us, hl with | [_], _ => rfl
  have bLwLIsClosed : Binds K fdLwLIsClosed ["_law_thing_here", "_law_left"] [] := FLwLIsClosed.bindsN fun _ _ _ _ _ _ us hl => match us, hl with | [_, _], _ => rfl
  have bLwLHas : Binds K fdLwLHas ["_law_form_here", "_law_thing_here"] [] := FLwLHas.bindsN fun _ _ _ _ _ _ us hl => match us, hl with | [_, _], _ => rfl
  have bLwLIsRow : Binds K fdLwLIsRow ["_law_thing_here"] [] := FLwLIsRow.bindsN fun _ _ _ _ _ _ us hl => match us, hl with | [_], _ => rfl
  have bLwLIsLink : Binds K fdLwLIsLink ["_law_thing_here"] [] := FLwLIsLink.bindsN fun _ _ _ _ _ _ us hl => match us, hl with | [_], _ => rfl
  have bLwLIsSingle : Binds K fdLwLIsSingle ["_law_link_here"] [] := FLwLIsSingle.bindsN fun _ _ _ _ _ _ us hl => match us, hl with | [_], _ => rfl
  have bLwLIsTried : Binds K fdLwLIsTried ["_law_form_here", "_law_is_home"] [] := FLwLIsTried.bindsN fun _ _ _ _ _ _ us hl => match us, hl with | [_, _], _ => rfl
  have bLwLTower : Binds K fdLwLTower ["_law_deep"] [] := FLwLTower.bindsN fun _ _ _ _ _ _ us hl => match us, hl with | [_], _ => rfl
  have bLwLThing : Binds K fdLwLThing ["_law_well_here"] [] := FLwLThing.bindsN fun _ _ _ _ _ _ us hl => match us, hl with | [_], _ => rfl
  have bLwLHolds : Binds K fdLwLHolds ["_law_thing_here"] [] := FLwLHolds.bindsN fun _ _ _ _ _ _ us hl => match us, hl with | [_], _ => rfl
  have bLwLRight : Binds K fdLwLRight ["_law_well_here"] [] := FLwLRight.bindsN fun _ _ _ _ _ _ us hl => match us, hl with | [_], _ => rfl
  have bPrIsDataKind : Binds K fdPrIsDataKind ["value"] [] := FPrIsDataKind.bindsN fun _ _ _ _ _ _ us hl => match us, hl with | [_], _ => rfl
  have bPrIsClosedKind : Binds K fdPrIsClosedKind ["value"] [] := FPrIsClosedKind.bindsN fun _ _ _ _ _ _ us hl => match us, hl with | [_], _ => rfl
  have bPrPartsOfKind : Binds K fdPrPartsOfKind ["kind"] [] := FPrPartsOfKind.bindsN fun _ _ _ _ _ _ us hl => match us, hl with | [_], _ => rfl
  have bPrIsTextOf : Binds K fdPrIsTextOf ["value", "texts"] [] := FPrIsTextOf.bindsN fun _ _ _ _ _ _ us hl => match us, hl with | [_, _], _ => rfl
  have bPrIsKindWithout : Binds K fdPrIsKindWithout ["value", "word"] [] := FPrIsKindWithout.bindsN fun _ _ _ _ _ _ us hl => match us, hl with | [_, _], _ => rfl
  have bPrToldParts : Binds K fdPrToldParts ["kind"] [] := FPrToldParts.bindsN fun _ _ _ _ _ _ us hl => match us, hl with | [_], _ => rfl
  have bPrPartsWithLevels : Binds K fdPrPartsWithLevels ["value"] [] := FPrPartsWithLevels.bindsN fun _ _ _ _ _ _ us hl => match us, hl with | [_], _ => rfl
  have bPrHasFormKinds : Binds K fdPrHasFormKinds ["value"] [] := FPrHasFormKinds.bindsN fun _ _ _ _ _ _ us hl => match us, hl with | [_], _ => rfl
  have bPrIsValue : Binds K fdPrIsValue ["kind", "value"] [] := FPrIsValue.bindsN fun _ _ _ _ _ _ us hl => match us, hl with | [_, _], _ => rfl
  have bPrIsNumber : Binds K fdPrIsNumber ["value"] [] := FPrIsNumber.bindsN fun _ _ _ _ _ _ us hl => match us, hl with | [_], _ => rfl
  have bPrCheckKind : Binds K fdPrCheckKind ["kind"] [] := FPrCheckKind.bindsN fun _ _ _ _ _ _ us hl => match us, hl with | [_], _ => rfl
  have bPrStandsUnder : Binds K fdPrStandsUnder ["kind", "value"] [] := FPrStandsUnder.bindsN fun _ _ _ _ _ _ us hl => match us, hl with | [_, _], _ => rfl
  have bPrHasFormValues : Binds K fdPrHasFormValues ["kind", "value"] [] := FPrHasFormValues.bindsN fun _ _ _ _ _ _ us hl => match us, hl with | [_, _], _ => rfl
  have bPrPartsBelow : Binds K fdPrPartsBelow ["kind", "value"] [] := FPrPartsBelow.bindsN fun _ _ _ _ _ _ us hl => match us, hl with | [_, _], _ => rfl
  have bPrIsSmallKind : Binds K fdPrIsSmallKind ["kind"] [] := FPrIsSmallKind.bindsN fun _ _ _ _ _ _ us hl => match us, hl with | [_], _ => rfl
  have bPrIsTriedKind : Binds K fdPrIsTriedKind ["kind"] [] := FPrIsTriedKind.bindsN fun _ _ _ _ _ _ us hl => match us, hl with | [_], _ => rfl
  have bPrBothFillings : Binds K fdPrBothFillings ["relation"] [] := FPrBothFillings.bindsN fun _ _ _ _ _ _ us hl => match us, hl with | [_], _ => rfl
  have bPrIsRelation : Binds K fdPrIsRelation ["value"] [] := FPrIsRelation.bindsN fun _ _ _ _ _ _ us hl => match us, hl with | [_], _ => rfl
  have bPrFillings : Binds K fdPrFillings ["relation"] [] := FPrFillings.bindsN fun _ _ _ _ _ _ us hl => match us, hl with | [_], _ => rfl
  have bPrIsTried : Binds K fdPrIsTried ["kind"] [] := FPrIsTried.bindsN fun _ _ _ _ _ _ us hl => match us, hl with | [_], _ => rfl
  have bPrIsTurn : Binds K fdPrIsTurn ["value"] [] := FPrIsTurn.bindsN fun _ _ _ _ _ _ us hl => match us, hl with | [_], _ => rfl
  have bPrCheckRelation : Binds K fdPrCheckRelation ["relation"] [] := FPrCheckRelation.bindsN fun _ _ _ _ _ _ us hl => match us, hl with | [_], _ => rfl
  have bPrRelatesAVariable : Binds K fdPrRelatesAVariable ["value"] [] := FPrRelatesAVariable.bindsN fun _ _ _ _ _ _ us hl => match us, hl with | [_], _ => rfl
  have bPrAreAscendingPairs : Binds K fdPrAreAscendingPairs ["one", "two", "pairs"] [] := FPrAreAscendingPairs.bindsN fun _ _ _ _ _ _ us hl => match us, hl with | [_, _, _], _ => rfl
  have bPrTellsEachOnce : Binds K fdPrTellsEachOnce ["pairs"] [] := FPrTellsEachOnce.bindsN fun _ _ _ _ _ _ us hl => match us, hl with | [_], _ => rfl
  have b := FunD.bindsA (ps := ["_law_script"]) FLwLaw fun _ _ _ _ _ _ us hl => match us, hl with | [_], _ => rfl
  refine ⟨fdLwLaw, fun s v => b s [v] rfl, fun base => ?_⟩
  have hD : Has P w K mg base "_law_dip" ["_law_well_here", "_law_top"] 1 spDraw := ⟨_, fdLwLDip, FLwLDip.kp, gLwLDip, bLwLDip, ok_dip FLwLDip B⟩
  have hP : Has P w K mg base "_law_pick" ["_law_well_here", "_law_some"] 2 (spPick K) := ⟨_, fdLwLPick, FLwLPick.kp, gLwLPick, bLwLPick, ok_pick FLwLPick B hD⟩
  have hPL : Has P w K mg base "_law_pick" ["_law_well_here", "_law_some"] 2 spPickL := ⟨_, fdLwLPick, FLwLPick.kp, gLwLPick, bLwLPick, ok_pickL FLwLPick B hD⟩
  have hW : Has P w K mg base "_law_well" ["_law_script", "_law_turn"] 1 (spWell K) := ⟨_, fdLwLWell, FLwLWell.kp, gLwLWell, bLwLWell, ok_well FLwLWell B⟩
  have hS : HasG P w K mg base "_law_is" ["_law_gave", "_law_due"] 1 spSame := ⟨_, fdLwLIs, FLwLIs.kp, gLwLIs, bLwLIs, ok_is FLwLIs B⟩
  have hTru : Has P w K mg base "_law_truth" [] 1 spTruth := ⟨_, fdLwLTruth, FLwLTruth.kp, gLwLTruth, bLwLTruth, ok_truth FLwLTruth⟩
  have hNa : Has P w K mg base "_law_names" ["_law_well_here"] 3 (spOdd namesL) := ⟨_, fdLwLNames, FLwLNames.kp, gLwLNames, bLwLNames, ok_names FLwLNames hP⟩
  have hNu : Has P w K mg base "_law_number" ["_law_well_here"] 3 spNu := ⟨_, fdLwLNumber, FLwLNumber.kp, gLwLNumber, bLwLNumber, ok_number FLwLNumber hD hP⟩
  have hCl : Has P w K mg base "_law_closed" ["_law_well_here", "_law_left"] 4 spClU := ⟨_, fdLwLClosed, FLwLClosed.kp, gLwLClosed, bLwLClosed, fnok_ex fun n hn => (ok_closed FLwLClosed hD hTru gLwLClosed bLwLClosed n).mono (by omega)⟩
  have hFm : Has P w K mg base "_law_form" ["_law_well_here", "_law_left", "_law_names_here", "_law_lot"] 6 (spFm 3) := ⟨_, fdLwLForm, FLwLForm.kp, gLwLForm, bLwLForm, ok_form FLwLForm B hD hP gLwLForm bLwLForm 3⟩
  have hWo : Has P w K mg base "_law_worth" ["_law_well_here", "_law_form_here"] 7 (spWo 3) := ⟨_, fdLwLWorth, FLwLWorth.kp, gLwLWorth, bLwLWorth, ok_worth FLwLWorth B hD hNu gLwLWorth bLwLWorth 3⟩
  have hKy : Has P w K mg base "_law_key" ["_law_form_here", "_law_worth_here"] 7 (spKy 6) := ⟨_, fdLwLKey, FLwLKey.kp, gLwLKey, bLwLKey, ok_key FLwLKey B gLwLKey bLwLKey 6⟩
  have hKy2 : Has P w K mg base "_law_key" ["_law_form_here", "_law_worth_here"] 101 (spKy 100) := ⟨_, fdLwLKey, FLwLKey.kp, gLwLKey, bLwLKey, ok_key FLwLKey B gLwLKey bLwLKey 100⟩
  have hRi : Has P w K mg base "_law_rising" ["_law_fronts", "_law_backs", "_law_some"] 8 spRi := ⟨_, fdLwLRising, FLwLRising.kp, gLwLRising, bLwLRising, ok_rising FLwLRising B hsd hKy⟩
  have hRw : Has P w K mg base "_law_rows" ["_law_well_here", "_law_fronts", "_law_backs", "_law_many"] 9 spRw := ⟨_, fdLwLRows, FLwLRows.kp, gLwLRows, bLwLRows, ok_rows FLwLRows B hD hPL hWo hRi⟩
  have hLk : Has P w K mg base "_law_link" ["_law_well_here", "_law_names_here", "_law_left"] 10 spLk := ⟨_, fdLwLLink, FLwLLink.kp, gLwLLink, bLwLLink, ok_link FLwLLink B hD hCl hRw⟩
  have hOd : Has P w K mg base "_law_odd" ["_law_well_here"] 3 (spOdd oddL3) := ⟨_, fdLwLOdd, FLwLOdd.kp, gLwLOdd, bLwLOdd, ok_odd FLwLOdd hP⟩
  have hBe : Has P w K mg base "_law_bent" ["_law_well_here", "_law_thing_here", "_law_left"] 10 (spBn 6) := ⟨_, fdLwLBent, FLwLBent.kp, gLwLBent, bLwLBent, ok_bent FLwLBent B hD hOd gLwLBent bLwLBent 6⟩
  have hWh : Has P w K mg base "_law_is_whole" ["_law_thing_here"] 1 spWh := ⟨_, fdLwLIsWhole, FLwLIsWhole.kp, gLwLIsWhole, bLwLIsWhole, ok_whole FLwLIsWhole B⟩
  have hIc : Has P w K mg base "_law_is_closed" ["_law_thing_here", "_law_left"] 101 (spIcl 100) := ⟨_, fdLwLIsClosed, FLwLIsClosed.kp, gLwLIsClosed, bLwLIsClosed, ok_isc FLwLIsClosed B gLwLIsClosed bLwLIsClosed 100⟩
  have hHa : Has P w K mg base "_law_has" ["_law_form_here", "_law_thing_here"] 102 (spHas 100) := ⟨_, fdLwLHas, FLwLHas.kp, gLwLHas, bLwLHas, ok_has FLwLHas B hWh gLwLHas bLwLHas 100⟩
  have hIr : Has P w K mg base "_law_is_row" ["_law_thing_here"] 103 spIr := ⟨_, fdLwLIsRow, FLwLIsRow.kp, gLwLIsRow, bLwLIsRow, ok_isrow FLwLIsRow B hHa hKy2 hIc⟩
  have hIl : Has P w K mg base "_law_is_link" ["_law_thing_here"] 104 spIl := ⟨_, fdLwLIsLink, FLwLIsLink.kp, gLwLIsLink, bLwLIsLink, ok_islink FLwLIsLink B hIr⟩
  have hIs : Has P w K mg base "_law_is_single" ["_law_link_here"] 1 spIsg := ⟨_, fdLwLIsSingle, FLwLIsSingle.kp, gLwLIsSingle, bLwLIsSingle, ok_single FLwLIsSingle B⟩
  have hTr : Has P w K mg base "_law_is_tried" ["_law_form_here", "_law_is_home"] 5 (spItr 4) := ⟨_, fdLwLIsTried, FLwLIsTried.kp, gLwLIsTried, bLwLIsTried, ok_tried FLwLIsTried B gLwLIsTried bLwLIsTried 4⟩
  have hTo : Has P w K mg base "_law_tower" ["_law_deep"] 1 spTw3 := ⟨_, fdLwLTower, FLwLTower.kp, gLwLTower, bLwLTower, ok_tower FLwLTower B⟩
  have hTh : Has P w K mg base "_law_thing" ["_law_well_here"] 11 spTh := ⟨_, fdLwLThing, FLwLThing.kp, gLwLThing, bLwLThing, ok_thing FLwLThing B hD hP hLk hNa hOd hTo hBe⟩
  -- the program
  have EI : ErrC P w K mg base "InvalidRelation" (He.ga K "InvalidRelation") ["index"] := err_InvalidRelation T
  have xII : PySem.W.exmOne K (.ref (He.ga K "InvalidRelation")) (.ref (He.ga K "InvalidRelation")) = some true := by
    obtain ⟨_, h⟩ := He.ba T.cl
    exact of_decide_eq_true h
  have hX : Has P w K mg base "is_text_of" ["value", "texts"] 1 (spTxt K) := ⟨_, fdPrIsTextOf, FPrIsTextOf.kp, gPrIsTextOf, bPrIsTextOf, ok_txt FPrIsTextOf B⟩
  have hHk : Has P w K mg base "has_form_kinds" ["value"] 2 spHf := ⟨_, fdPrHasFormKinds, FPrHasFormKinds.kp, gPrHasFormKinds, bPrHasFormKinds, ok_hf FPrHasFormKinds B pf T.hV hX⟩
  have hPw : Has P w K mg base "_parts_with_levels" ["value"] 3 spPw := ⟨_, fdPrPartsWithLevels, FPrPartsWithLevels.kp, gPrPartsWithLevels, bPrPartsWithLevels, ok_pwl FPrPartsWithLevels pf hHk⟩
  have hKw : Has P w K mg base "_is_kind_without" ["value", "word"] 4 spKwG := ⟨_, fdPrIsKindWithout, FPrIsKindWithout.kp, gPrIsKindWithout, bPrIsKindWithout, ok_kw FPrIsKindWithout B hPw⟩
  have hDk : Has P w K mg base "is_data_kind" ["value"] 5 (spIsG isDk) := ⟨_, fdPrIsDataKind, FPrIsDataKind.kp, gPrIsDataKind, bPrIsDataKind, ok_dk FPrIsDataKind hKw⟩
  have hCk : Has P w K mg base "is_closed_kind" ["value"] 5 (spIsG isCk) := ⟨_, fdPrIsClosedKind, FPrIsClosedKind.kp, gPrIsClosedKind, bPrIsClosedKind, ok_ck FPrIsClosedKind hKw⟩
  have hTp : Has P w K mg base "_told_parts" ["kind"] 4 spTp := ⟨_, fdPrToldParts, FPrToldParts.kp, gPrToldParts, bPrToldParts, ok_tp FPrToldParts hPw⟩
  have hPk : Has P w K mg base "parts_of_kind" ["kind"] 5 spPk := ⟨_, fdPrPartsOfKind, FPrPartsOfKind.kp, gPrPartsOfKind, bPrPartsOfKind, ok_pk FPrPartsOfKind hTp⟩
  have hNb : Has P w K mg base "is_number" ["value"] 1 spNb := ⟨_, fdPrIsNumber, FPrIsNumber.kp, gPrIsNumber, bPrIsNumber, V3.ok_nb FPrIsNumber B⟩
  have hHv : Has P w K mg base "has_form_values" ["kind", "value"] 2 spHv := ⟨_, fdPrHasFormValues, FPrHasFormValues.kp, gPrHasFormValues, bPrHasFormValues, V3.ok_hv FPrHasFormValues B hNb hX⟩
  have hPb : Has P w K mg base "_parts_below" ["kind", "value"] 1 spPb := ⟨_, fdPrPartsBelow, FPrPartsBelow.kp, gPrPartsBelow, bPrPartsBelow, V3.ok_pb FPrPartsBelow⟩
  have hSu : Has P w K mg base "_stands_under" ["kind", "value"] 3 spSu := ⟨_, fdPrStandsUnder, FPrStandsUnder.kp, gPrStandsUnder, bPrStandsUnder, V3.ok_su FPrStandsUnder hHv hPb⟩
  have hCz : Has P w K mg base "_check_kind" ["kind"] 6 spCkZ := ⟨_, fdPrCheckKind, FPrCheckKind.kp, gPrCheckKind, bPrCheckKind, ok_ckZ FPrCheckKind hDk hCk⟩
  have hIv : Has P w K mg base "is_value" ["kind", "value"] 7 spIvZ := ⟨_, fdPrIsValue, FPrIsValue.kp, gPrIsValue, bPrIsValue, ok_ivZ FPrIsValue hCz hSu⟩
  have hAp : Has P w K mg base "_are_ascending_pairs" ["one", "two", "pairs"] 8 spAp := ⟨_, fdPrAreAscendingPairs, FPrAreAscendingPairs.kp, gPrAreAscendingPairs, bPrAreAscendingPairs, ok_ap FPrAreAscendingPairs B hEn hIv⟩
  have hRv : Has P w K mg base "_relates_a_variable" ["value"] 9 spRv := ⟨_, fdPrRelatesAVariable, FPrRelatesAVariable.kp, gPrRelatesAVariable, bPrRelatesAVariable, ok_rv FPrRelatesAVariable B (T.glo _ (by decide +kernel)) T.hV hX hDk hCk hAp⟩
  have hC0 : Has P w K mg base "check_relation" ["relation"] 10 spCr0 := ⟨_, fdPrCheckRelation, FPrCheckRelation.kp, gPrCheckRelation, bPrCheckRelation, ok_cr0 FPrCheckRelation B hEn hRv⟩
  have GCx : FnOk P w K mg base (L2.CX P w) 10 (He.ga K "check_relation") fdPrCheckRelation ["relation"] (spCrX (He.ga K "InvalidRelation")) := ok_crX FPrCheckRelation B hEn EI hRv
  have GIre : FnOk P w K mg base CX0 11 (He.ga K "is_relation") fdPrIsRelation ["value"] spIre := ok_ire FPrIsRelation EI xII FPrCheckRelation.kp gPrCheckRelation bPrCheckRelation GCx
  have hIre : Has P w K mg base "is_relation" ["value"] 11 spIre := ⟨_, fdPrIsRelation, FPrIsRelation.kp, gPrIsRelation, bPrIsRelation, GIre⟩
  have hR : HasK P w K mg base "is_relation" ["value"] ["value"] 11 spIre := ⟨_, fdPrIsRelation, _, FPrIsRelation.kp, gPrIsRelation, bPrIsRelation, kbIsRel FPrIsRelation, GIre⟩
  have hOn : Has P w K mg base "_tells_each_once" ["pairs"] 1 spTo := ⟨_, fdPrTellsEachOnce, FPrTellsEachOnce.kp, gPrTellsEachOnce, bPrTellsEachOnce, ok_to FPrTellsEachOnce B⟩
  have hU : HasK P w K mg base "is_turn" ["value"] ["value"] 12 spItu := ⟨_, fdPrIsTurn, _, FPrIsTurn.kp, gPrIsTurn, bPrIsTurn, kbIsTurn FPrIsTurn, ok_itu FPrIsTurn B hIre hOn⟩
  have hBf : Has P w K mg base "both_fillings" ["relation"] 1 spBf := ⟨_, fdPrBothFillings, FPrBothFillings.kp, gPrBothFillings, bPrBothFillings, ok_bf FPrBothFillings B⟩
  have hFi : HasK P w K mg base "fillings" ["relation"] ["relation"] 11 spFi := ⟨_, fdPrFillings, _, FPrFillings.kp, gPrFillings, bPrFillings, kbFill FPrFillings, ok_fi FPrFillings hC0 hBf⟩
  have hSm : Has P w K mg base "is_small_kind" ["kind"] 6 (spTr true) := ⟨_, fdPrIsSmallKind, FPrIsSmallKind.kp, gPrIsSmallKind, bPrIsSmallKind, ok_sm FPrIsSmallKind B (T.glo _ (by decide +kernel)) T.hSm hPk⟩
  have hTk : Has P w K mg base "is_tried_kind" ["kind"] 7 (spTr false) := ⟨_, fdPrIsTriedKind, FPrIsTriedKind.kp, gPrIsTriedKind, bPrIsTriedKind, ok_tk FPrIsTriedKind B hPk hSm⟩
  have hIt : HasK P w K mg base "is_tried" ["kind"] ["kind"] 8 (spTr false) := ⟨_, fdPrIsTried, _, FPrIsTried.kp, gPrIsTried, bPrIsTried, kbIsTried FPrIsTried, ok_it5 FPrIsTried hTk⟩
  have hHo : HasG P w K mg base "_law_holds" ["_law_thing_here"] 105 spHo := ⟨_, fdLwLHolds, FLwLHolds.kp, gLwLHolds, bLwLHolds, ok_holds FLwLHolds B hIl hIs hS hR hU hFi⟩
  have hRt : HasG P w K mg base "_law_right" ["_law_well_here"] 106 spOne := ⟨_, fdLwLRight, FLwLRight.kp, gLwLRight, bLwLRight, ok_right FLwLRight B hHo hTh hFm hP hTr hS hIt⟩
  exact ok_law FLwLaw B hW hRt
end
end N3
open PySem PyProof.Rows PySem.W PySem.Calls
set_option maxRecDepth 99999 in
set_option maxHeartbeats 0 in
theorem PySem.Challenge.cw_bykindalone_k30_relations_of_anything_holds : PySem.Challenge.rw_bykindalone_k30_relations_of_anything.Holds := by
  w_on; o_law
  refine HandSHeadRun.head_any (r := OpenLaw.row PySem.Challenge.rw_bykindalone_k30_relations_of_anything) (q := view (OpenLaw.row PySem.Challenge.rw_bykindalone_k30_relations_of_anything).prog [67]) (H := N3.hk) (ob := N3.ob) (M := 30000) (loose := N3.loose)
    (d := HandSHeadRun.topDef (OpenLaw.row PySem.Challenge.rw_bykindalone_k30_relations_of_anything).prog 67) (kwd := []) N3.ob_eq
    (by kernel_rfl) (fun s => by kernel_rfl) N3.run (by kernel_rfl) (by kernel_rfl) (by kernel_rfl) (by rfl) (by first | assumption | decide +kernel) (by decide +kernel) ⟨rfl, rfl, rfl, rfl, rfl, by decide +kernel⟩ ?hw ?hc
  case hw => w_witness2
  case hc =>
    refine KB.walk_ofG (l := PySem.Challenge.rw_bykindalone_k30_relations_of_anything) (n := 63) (k := 107) (x := "_law_script") rfl (by decide) (by kernel_rfl) ⟨rfl, by decide, by decide⟩ ?F
    intro w mg fa h Y G hmg0
    obtain ⟨K, KX, c⟩ := Y
    have T := N3.top_of (P := (PySem.Challenge.rw_bykindalone_k30_relations_of_anything).prog) (w := w) KX G c
    have atLaw : mg ("law" : PySem.Str) = some (.ref fa) := by
      have e : (HandSHeadRun.topDef (OpenLaw.row PySem.Challenge.rw_bykindalone_k30_relations_of_anything).prog 67).name = ("law" : PySem.Str) := by kernel_rfl
      rw [← e]
      exact hmg0
    have hga : fa = He.ga K "law" := by
      have z := atLaw.symm.trans ((T.lawg ("law", 67) (List.contains_iff_mem.mp (by decide +kernel))).1)
      cases z
      rfl
    subst hga
    obtain ⟨fd, hb, hF⟩ := N3.law_all (P := (PySem.Challenge.rw_bykindalone_k30_relations_of_anything).prog) (w := w) T
    exact ⟨K, fd, N3.spLaw K, KX, hb, fun H a ns hl _ hS => ⟨a, ns, rfl, hS, fun _ => rfl⟩, fun base _ _ => hF base⟩
