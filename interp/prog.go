package interp

import (
	"slices"

	"turnstone/api"
)

// copyProg returns p in new memory: its owner may turn it while a Machine still executes it.
func copyProg(p api.Prog) api.Prog {
	p.Types = slices.Clone(p.Types)
	for t := range p.Types {
		copyType(&p.Types[t])
	}
	p.Funcs = slices.Clone(p.Funcs)
	for f := range p.Funcs {
		copyFunc(&p.Funcs[f])
	}
	p.Texts = slices.Clone(p.Texts)
	p.Nums = slices.Clone(p.Nums)
	return p
}

func copyType(t *api.Type) {
	t.Fields = slices.Clone(t.Fields)
	t.Methods = slices.Clone(t.Methods)
	for i := range t.Methods {
		m := &t.Methods[i]
		m.Params = slices.Clone(m.Params)
	}
}

func copyFunc(f *api.Func) {
	f.Params = slices.Clone(f.Params)
	f.Locals = slices.Clone(f.Locals)
	f.Code = slices.Clone(f.Code)
}
