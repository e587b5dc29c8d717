package books

import (
	"testing"

	"firn/api"
)

func TestLimit(t *testing.T) {
	box := func(number int) api.Command { return api.Command{Kind: api.NewBox, Box: number, N: 2} }
	tube := api.Command{Kind: api.Register, Tube: 1, Donor: 1, Volume: 10, Box: 1}
	aliquot := api.Command{Kind: api.Aliquot, Tube: 1, Other: 2, Volume: 5, Box: 1, X: 1}
	content := api.Command{Kind: api.Content, Box: 1}
	b, _ := Read("", 3)
	for _, step := range []struct {
		command api.Command
		want    api.Errno
		size    int
	}{
		{box(1), api.OK, 1},
		{tube, api.OK, 2},
		{aliquot, api.ErrFull, 2},
		{box(2), api.OK, 3},
		{box(3), api.ErrFull, 3},
		{box(2), api.ErrBox, 3},
		{content, api.OK, 3},
	} {
		numbers, e := b.Do(step.command)
		if e != step.want || b.tree.Len() != step.size {
			t.Errorf("%+v: %d, %d there, want %d, %d", step.command, e, b.tree.Len(), step.want, step.size)
		}
		if e != api.OK && len(numbers) > 0 {
			t.Errorf("%+v: the error %d has numbers", step.command, e)
		}
	}
	if _, e := b.Do(api.Command{Kind: api.Show, Tube: 2}); e != api.ErrTube {
		t.Errorf("the tube of a refused Aliquot: %d", e)
	}
}
