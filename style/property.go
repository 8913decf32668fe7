package style

import "widgetry/api"

const (
	white      = 0xFFFFFF // the greatest color
	none       = -1       // no background, or no basis
	mostFactor = 1000
)

// property is what the chapter says of a property.
type property struct {
	inherited            bool
	least, most, initial int
}

var properties = [api.PropCount]property{
	api.PropColor:      {true, 0, white, 0},
	api.PropBackground: {false, none, white, none},
	api.PropFontSize:   {true, 1, api.MaxSize, 16},
	api.PropFontFace:   {true, 0, api.MaxFonts - 1, 0},
	api.PropDirection:  {true, api.BaseLeft, api.BaseRight, api.BaseLeft},
	api.PropDisplay:    {false, api.DisplayNone, api.DisplayPlace, api.DisplayColumn},
	api.PropAlign:      {false, api.AlignStart, api.AlignBaseline, api.AlignStretch},
	api.PropJustify:    {false, api.AlignStart, api.JustifyBetween, api.AlignStart},
	api.PropTextAlign:  {true, api.AlignStart, api.AlignCenter, api.AlignStart},
	api.PropGap:        {false, 0, api.MaxLength, 0},
	api.PropGrow:       {false, 0, mostFactor, 0},
	api.PropShrink:     {false, 0, mostFactor, 1},
	api.PropBasis:      {false, none, api.MaxLength, none},
	api.PropMinWidth:   {false, 0, api.MaxLength, 0},
	api.PropMaxWidth:   {false, 0, api.MaxLength, api.MaxLength},
	api.PropMinHeight:  {false, 0, api.MaxLength, 0},
	api.PropMaxHeight:  {false, 0, api.MaxLength, api.MaxLength},
	api.PropPadStart:   {false, 0, api.MaxLength, 0},
	api.PropPadTop:     {false, 0, api.MaxLength, 0},
	api.PropPadEnd:     {false, 0, api.MaxLength, 0},
	api.PropPadBottom:  {false, 0, api.MaxLength, 0},
	api.PropVisibility: {true, 0, 1, 0},
}

func exists(prop int) bool {
	return within(prop, 0, api.PropCount-1)
}

func within(x, low, high int) bool {
	return low <= x && x <= high
}
